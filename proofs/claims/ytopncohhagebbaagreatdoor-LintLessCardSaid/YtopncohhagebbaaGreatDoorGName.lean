/-
  Package glyph in this program: letter, digit, Name.
-/
import Derived.Test.YtopncohhagebbaaGreatDoorMgMem
import Derived.Test.YtopncohhagebbaaGreatDoorMgPure
namespace Go.Proofs.YtopncohhagebbaaGreatDoor
open Go.RowKit
namespace Gl

theorem letter_any (r : Nat) (hr : r ≤ 1114111) (w : World) :
    Calls Tryz.prog 87 #[.int .i32 r] w fun e w' => e = .returned (.bool (Gly.letterB r)) ∧ w = w' := by
  by_cases h1 : 97 ≤ r
  · by_cases h2 : r ≤ 122
    all_goals
      go_enter Tryz.func87, Tryz.ntmps87
      go_wp2
      go_ret
      exact ⟨by simp [Gly.letterB, h1, h2]; try omega, rfl⟩
  · go_enter Tryz.func87, Tryz.ntmps87
    go_wp2
    go_ret
    exact ⟨by simp [Gly.letterB, h1], rfl⟩

theorem digit_any (r : Nat) (hr : r ≤ 1114111) (w : World) :
    Calls Tryz.prog 88 #[.int .i32 r] w fun e w' => e = .returned (.bool (Gly.digitB r)) ∧ w = w' := by
  by_cases h1 : 48 ≤ r
  · by_cases h2 : r ≤ 57
    all_goals
      go_enter Tryz.func88, Tryz.ntmps88
      go_wp2
      go_ret
      exact ⟨by simp [Gly.digitB, h1, h2]; try omega, rfl⟩
  · go_enter Tryz.func88, Tryz.ntmps88
    go_wp2
    go_ret
    exact ⟨by simp [Gly.digitB, h1], rfl⟩

set_option maxHeartbeats 2000000 in
set_option maxRecDepth 100000 in
theorem name_in (s : ByteArray) (w : World) (h1 : 1 ≤ s.size) (h2 : s.size ≤ 16) :
    Calls Tryz.prog 52 #[.string s] w fun e w' => e = .returned (.bool (Gly.nameOk true s.data.toList)) ∧ Below w.heap.size w w' := by
  have e1 : s.toList.isEmpty = false := by rw [Lib.toList_data]; cases h : s.data.toList with
    | nil => rw [Lib.size_eq, h] at h1; simp at h1
    | cons a t => rfl
  have e2 : (s.toList == []) = false := by rw [Lib.toList_data]; cases h : s.data.toList with
    | nil => rw [Lib.size_eq, h] at h1; simp at h1
    | cons a t => rfl
  go_enter Tryz.func52, Tryz.ntmps52
  go_wp2
  go_loopw [] (fun wr => ∃ (pos : Nat), wr.heap[w.heap.size]? = some (.stringIter s pos) ∧ Below w.heap.size w wr ∧ Hid (Gly.nameOk (pos == 0) (s.data.toList.drop pos) = Gly.nameOk true s.data.toList) ∧ pos ≤ s.size) (fun wr => s.size - wr.iterPos w.heap.size)
  case atStart => exact ⟨0, World.iter_heap w s 0, (Below.refl _ _).alloc (Nat.le_refl _) _, rfl, by omega⟩
  case round =>
    clear e1 e2
    obtain ⟨pos, hit, hbw, HS, hps⟩ := hrel
    have hpos0 := iterPos_of hit
    by_cases hp : pos < s.size
    · have hnx : ∀ ty, (Instr.next (.pointer (some ⟨w.heap.size, 0, none⟩)) true ty).run Tryz.prog wr = _ := fun ty => Lib.run_next_any_at wr w.heap.size s pos ty hit hp
      have hne := drop_ne hp
      have hwd := width s pos hp
      have hit2 := Lib.iterAt_heap wr w.heap.size s pos (pos + (Utf8.decode s pos).2) hit
      have hbw2 := Lib.below_iterAt hbw (k := w.heap.size) (Nat.le_refl _) s (pos + (Utf8.decode s pos).2)
      have hmx := Gly.dec_max _ hne
      have hst := Gly.nameOk_rune hne (pos == 0)
      rw [drop_next, HS.out, ← Gly.dec_at] at hst
      rw [← Gly.dec_at] at hmx
      have hle := letter_any (Utf8.decode s pos).1 hmx
      have hdi := digit_any (Utf8.decode s pos).1 hmx
      obtain ⟨W1, hW1⟩ : ∃ W1, W1 = wr.iterAt w.heap.size s (pos + (Utf8.decode s pos).2) := ⟨_, rfl⟩
      rw [← hW1] at hnx hit2 hbw2
      have hpz : (pos + (Utf8.decode s pos).2 == 0) = false := by simp; omega
      have HZ := Lib.hid hpz
      clear hW1 hit hbw hpz hne
      cases hl : Gly.letterB (Utf8.decode s pos).1 with
      | true =>
        rw [hl] at hst hle
        have HL := Lib.hid hle
        have HN := Lib.hid hst
        clear hl hst hle hdi
        go_wp2_with (go_at_call 87; refine (HL.out _).mono ?_; rintro e w' ⟨rfl, rfl⟩)
        go_roundw
        case rel => exact ⟨_, hit2, hbw2, Lib.hid (by rw [HZ.out, HN.out]; simp), hwd.2⟩
        case measure => rw [iterPos_of hit2, hpos0]; omega
      | false =>
        rw [hl] at hst hle
        have HL := Lib.hid hle
        by_cases h0 : pos = 0
        · subst h0
          have HN := Lib.hid hst
          clear hl hst hle hdi
          go_wp2_with (go_at_call 87; refine (HL.out _).mono ?_; rintro e w' ⟨rfl, rfl⟩)
          go_ret
          exact ⟨by rw [HN.out]; rfl, hbw2⟩
        · have p0 : (pos == 0) = false := by simp; omega
          have p1 : ((pos : Int) == 0) = false := by simp; omega
          rw [p0] at hst
          clear p0
          cases hd : Gly.digitB (Utf8.decode s pos).1 with
          | true =>
            rw [hd] at hst hdi
            have HD := Lib.hid hdi
            have HN := Lib.hid hst
            clear hl hst hle hdi hd
            go_wp2_with (first
              | (go_at_call 87; refine (HL.out _).mono ?_; rintro e w' ⟨rfl, rfl⟩)
              | (go_at_call 88; refine (HD.out _).mono ?_; rintro e w' ⟨rfl, rfl⟩))
            go_roundw
            case rel => exact ⟨_, hit2, hbw2, Lib.hid (by rw [HZ.out, HN.out]; simp), hwd.2⟩
            case measure => rw [iterPos_of hit2, hpos0]; omega
          | false =>
            rw [hd] at hst hdi
            have HD := Lib.hid hdi
            by_cases h95 : (Utf8.decode s pos).1 = 95
            · rw [h95] at hst
              have HN := Lib.hid hst
              have hn1 : (((Utf8.decode s pos).1 : Int) != 95) = false := by rw [h95]; rfl
              clear hl hst hle hdi hd h95
              go_wp2_with (first
                | (go_at_call 87; refine (HL.out _).mono ?_; rintro e w' ⟨rfl, rfl⟩)
                | (go_at_call 88; refine (HD.out _).mono ?_; rintro e w' ⟨rfl, rfl⟩))
              go_roundw
              case rel => exact ⟨_, hit2, hbw2, Lib.hid (by rw [HZ.out, HN.out]; simp), hwd.2⟩
              case measure => rw [iterPos_of hit2, hpos0]; omega
            · have hn0 : ((Utf8.decode s pos).1 == 95) = false := by simp [h95]
              rw [hn0] at hst
              have HN := Lib.hid hst
              have hn1 : (((Utf8.decode s pos).1 : Int) != 95) = true := by rw [bne_iff_ne]; omega
              clear hl hst hle hdi hd h95 hn0
              go_wp2_with (first
                | (go_at_call 87; refine (HL.out _).mono ?_; rintro e w' ⟨rfl, rfl⟩)
                | (go_at_call 88; refine (HD.out _).mono ?_; rintro e w' ⟨rfl, rfl⟩))
              go_ret
              exact ⟨by rw [HN.out]; rfl, hbw2⟩
    · have hnx : ∀ ty, (Instr.next (.pointer (some ⟨w.heap.size, 0, none⟩)) true ty).run Tryz.prog wr = _ := fun ty => Lib.run_next_end_at wr w.heap.size s pos ty hit hp
      have hc := HS.out
      rw [drop_end hp, Gly.nameOk] at hc
      have HC := Lib.hid hc
      clear hc
      go_wp2
      go_ret
      exact ⟨by rw [← HC.out]; rfl, hbw⟩

set_option maxHeartbeats 1000000 in
set_option maxRecDepth 100000 in
theorem name_free (s : ByteArray) (w : World) :
    Calls Tryz.prog 52 #[.string s] w fun e w' => e = .returned (.bool (Gly.nameB s.data.toList)) ∧ Below w.heap.size w w' := by
  by_cases h0 : 1 ≤ s.size ∧ s.size ≤ 16
  · have h := name_in s w h0.1 h0.2
    rw [Gly.nameB, ← Lib.size_eq, decide_eq_true h0, Bool.true_and]
    exact h
  · rw [Gly.nameB, ← Lib.size_eq, decide_eq_false h0, Bool.false_and]
    by_cases h1 : s.size = 0
    · have e : s = ⟨#[]⟩ := by
        cases s with
        | mk d =>
          have : d.size = 0 := h1
          rw [Array.eq_empty_of_size_eq_zero this]
      subst e
      clear h0 h1
      go_enter Tryz.func52, Tryz.ntmps52
      go_wp2
      go_ret
      exact ⟨rfl, Below.refl _ _⟩
    · have h2 : 16 < s.size := by omega
      have e1 : s.toList.isEmpty = false := by rw [Lib.toList_data]; cases h : s.data.toList with
        | nil => rw [Lib.size_eq, h] at h2; simp at h2
        | cons a t => rfl
      have e2 : (s.toList == []) = false := by rw [Lib.toList_data]; cases h : s.data.toList with
        | nil => rw [Lib.size_eq, h] at h2; simp at h2
        | cons a t => rfl
      clear h0
      go_enter Tryz.func52, Tryz.ntmps52
      go_wp2
      go_ret
      exact ⟨rfl, Below.refl _ _⟩
theorem name_any (s : ByteArray) (w : World) (_hs : s.size ≤ 4000000) :
    Calls Tryz.prog 52 #[.string s] w fun e w' => e = .returned (.bool (Gly.nameB s.data.toList)) ∧ Below w.heap.size w w' := name_free s w
end Gl
end Go.Proofs.YtopncohhagebbaaGreatDoor
