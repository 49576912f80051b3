/-
  Layer 5 (tract): fits: whether a node has what its kind must have.
-/
import Derived.Test.YtopncohhagebbaaGreatDoorTrMem
import Derived.Test.YtopncohhagebbaaGreatDoorTrWord
namespace Go.Proofs.YtopncohhagebbaaGreatDoor
open Go.RowKit
namespace Tr

theorem empty_iff (s : ByteArray) : nil s = s.toList.isEmpty := by rw [nil, Lib.toList_data]
theorem len_zero (n : Nat) : ((n : Int) == 0) = (n == 0) := by
  by_cases h : n = 0
  · subst h; rfl
  · rw [beq_eq_false_iff_ne.2 h]; simp; omega
theorem len_two (n : Nat) : ((n : Int) == 2) = (n == 2) := by
  by_cases h : n = 2
  · subst h; rfl
  · rw [beq_eq_false_iff_ne.2 h]; simp; omega

set_option maxHeartbeats 4000000 in
set_option maxRecDepth 100000 in
theorem fits_any (n : Nd) (v : Value) (w : World) (hn : IsNode w n v) :
    Calls Tryz.prog 134 #[v] w fun e x => e = .returned (.bool (fits n)) ∧ Below w.heap.size w x := by
  obtain ⟨ao, cap, vs, rfl, -, -⟩ := hn.kids
  clear hn vs
  cases n with
  | mk k a b l =>
    show Calls _ _ #[node4 k a b (.slice ao l.length cap)] _ _
    have HA := Lib.hid (fun w => word_any a w)
    have HB := Lib.hid (fun w => word_any b w)
    by_cases h1 : k = 1
    · subst h1
      have HF := Lib.hid (show fits (.mk 1 a b l) = (a.toList.isEmpty && b.toList.isEmpty && l.length == 0) by rw [fits, empty_iff, empty_iff]; simp)
      go_enter Tryz.func134, Tryz.ntmps134
      go_wp2_with fail
      all_goals (go_ret; exact ⟨by rw [HF.out]; simp_all [len_zero] <;> omega, (Below.refl _ _).alloc (Nat.le_refl _) _⟩)
    by_cases h2 : k = 2
    · subst h2
      have HF := Lib.hid (show fits (.mk 2 a b l) = (word a && b.toList.isEmpty && l.length == 0) by rw [fits, empty_iff, empty_iff]; simp)
      go_enter Tryz.func134, Tryz.ntmps134
      go_wp2_with fail
      all_goals
        refine (HA.out _).mono ?_
        rintro e x ⟨rfl, hx⟩
        obtain ⟨-, -, b2, b3⟩ := ((Box4.new w _ a b _).on hx).cells
        go_wp2_with fail
        all_goals (go_ret; exact ⟨by rw [HF.out]; simp_all [len_zero], ((Below.refl _ _).alloc (Nat.le_refl _) _).trans (hx.mono (by simp))⟩)
    by_cases h3 : k = 3
    · subst h3
      have HF := Lib.hid (show fits (.mk 3 a b l) = (word a && word b && l.length == 0) by rw [fits, empty_iff, empty_iff]; simp)
      go_enter Tryz.func134, Tryz.ntmps134
      go_wp2_with fail
      all_goals
        refine (HA.out _).mono ?_
        rintro e x ⟨rfl, hx⟩
        obtain ⟨-, -, b2, b3⟩ := ((Box4.new w _ a b _).on hx).cells
        go_wp2_with fail
        all_goals first
          | (go_ret; exact ⟨by rw [HF.out]; simp_all, ((Below.refl _ _).alloc (Nat.le_refl _) _).trans (hx.mono (by simp))⟩)
          | (refine (HB.out _).mono ?_
             rintro e y ⟨rfl, hy⟩
             obtain ⟨-, -, -, c3⟩ := (((Box4.new w _ a b _).on hx).on hy).cells
             go_wp2_with fail
             all_goals (go_ret; exact ⟨by rw [HF.out]; simp_all [len_zero], (((Below.refl _ _).alloc (Nat.le_refl _) _).trans (hx.mono (by simp))).trans (hy.mono (by have := hx.size; simp at this; omega))⟩))
    by_cases h4 : k = 4
    · subst h4
      have HF := Lib.hid (show fits (.mk 4 a b l) = (a.toList.isEmpty && b.toList.isEmpty && decide (2 ≤ l.length)) by rw [fits, empty_iff, empty_iff]; simp)
      go_enter Tryz.func134, Tryz.ntmps134
      go_wp2_with fail
      all_goals (go_ret; exact ⟨by rw [HF.out]; simp_all <;> omega, (Below.refl _ _).alloc (Nat.le_refl _) _⟩)
    by_cases h5 : k = 5
    · subst h5
      have HF := Lib.hid (show fits (.mk 5 a b l) = (a.toList.isEmpty && b.toList.isEmpty && decide (2 ≤ l.length)) by rw [fits, empty_iff, empty_iff]; simp)
      go_enter Tryz.func134, Tryz.ntmps134
      go_wp2_with fail
      all_goals (go_ret; exact ⟨by rw [HF.out]; simp_all <;> omega, (Below.refl _ _).alloc (Nat.le_refl _) _⟩)
    by_cases h6 : k = 6
    · subst h6
      have HF := Lib.hid (show fits (.mk 6 a b l) = (a.toList.isEmpty && b.toList.isEmpty && l.length == 2) by rw [fits, empty_iff, empty_iff]; simp)
      go_enter Tryz.func134, Tryz.ntmps134
      go_wp2_with fail
      all_goals (go_ret; exact ⟨by rw [HF.out]; simp_all [len_two] <;> omega, (Below.refl _ _).alloc (Nat.le_refl _) _⟩)
    have HF := Lib.hid (show fits (.mk k a b l) = false by rw [fits]; simp [h1, h2, h3, h4, h5, h6])
    have e1 : (k == 1) = false := by simpa using h1
    have e2 : (k == 2) = false := by simpa using h2
    have e3 : (k == 3) = false := by simpa using h3
    have e4 : (k == 4) = false := by simpa using h4
    have e5 : (k == 5) = false := by simpa using h5
    have e6 : (k == 6) = false := by simpa using h6
    clear h1 h2 h3 h4 h5 h6
    go_enter Tryz.func134, Tryz.ntmps134
    go_wp2_with fail
    all_goals (go_ret; exact ⟨by rw [HF.out]; rfl, (Below.refl _ _).alloc (Nat.le_refl _) _⟩)
end Tr
end Go.Proofs.YtopncohhagebbaaGreatDoor
