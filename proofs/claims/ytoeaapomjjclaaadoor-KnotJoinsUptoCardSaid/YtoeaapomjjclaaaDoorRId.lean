/-
  The document's Id.
-/
import Derived.Test.YtoeaapomjjclaaaDoorRunes
import Derived.Test.YtoeaapomjjclaaaDoorPlain
import Derived.Test.YtoeaapomjjclaaaDoorNmPure
namespace Go.Proofs.YtoeaapomjjclaaaDoor
open Go.RowKit
namespace Ref

theorem owned_any {w : World} {B : Nat} {e : TypeId} {v : Value} {n : Nat} {xs : List Value} (h : w.ownsRow B e 1 v n xs) : ∃ ao cap, v = .slice ao n cap := by
  rcases h.2 with ⟨hv, h0⟩ | ⟨g, cap, cur, hv, _⟩
  · exact ⟨none, 0, by rw [hv, h0]⟩
  · exact ⟨_, _, hv⟩
theorem owned_some {w : World} {B : Nat} {e : TypeId} {v : Value} {n : Nat} {xs : List Value} (h : w.ownsRow B e 1 v n xs) (hn : 1 ≤ n) : ∃ g cap, v = .slice (some ⟨g, 0, none⟩) n cap := by
  rcases h.2 with ⟨hv, h0⟩ | ⟨g, cap, cur, hv, _⟩
  · omega
  · exact ⟨g, cap, hv⟩

theorem runes_max : ∀ (k : Nat) (l : List UInt8), l.length ≤ k → ∀ t, Gly.runes l = some t → ∀ r ∈ t, r ≤ 1114111
  | k, l, hk, t, ht, r, hr => by
    by_cases h : l = []
    · subst h; rw [Gly.runes_nil] at ht; cases ht; simp at hr
    · have hl := Gly.drop_lt h
      obtain ⟨k, rfl⟩ : ∃ j, k = j + 1 := ⟨k - 1, by omega⟩
      cases hb : Gly.bad l with
      | true => rw [Gly.runes_bad h hb] at ht; cases ht
      | false =>
        rw [Gly.runes_step h hb] at ht
        cases hu : Gly.runes (l.drop (Gly.dec l).2) with
        | none => rw [hu] at ht; cases ht
        | some u =>
          rw [hu] at ht; cases ht
          rcases List.mem_cons.1 hr with rfl | hr
          · exact Gly.dec_max l h
          · exact runes_max k _ (by omega) u hu r hr

set_option maxHeartbeats 2000000 in
set_option maxRecDepth 100000 in
theorem id_any (s : ByteArray) (w : World) (hs : s.size ≤ 4000000) :
    Calls Tryd.prog 46 #[.string s] w fun e w' => e = .returned (.bool (Gly.idB s.data.toList)) ∧ Below w.heap.size w w' := by
  have hb := Gly.idB_runes s.data.toList
  have hu := fun w => runes_any s w hs
  cases hr : Gly.runes s.data.toList with
  | none =>
    rw [hr] at hb hu
    have HB := Lib.hid hb
    have HU := Lib.hid hu
    clear hb hu hr
    go_enter Tryd.func46, Tryd.ntmps46
    go_wp2_with (go_at_call 54; refine (HU.out _).mono ?_; rintro e w1 ⟨rfl, b1⟩)
    go_ret
    exact ⟨by rw [HB.out]; rfl, b1⟩
  | some t =>
    have hmx := runes_max _ _ (Nat.le_refl _) t hr
    have htl := Gly.runes_len _ _ (Nat.le_refl _) t hr
    rw [← Lib.size_eq] at htl
    rw [hr] at hb hu
    have HU := Lib.hid hu
    have HM := Lib.hid hmx
    clear hu hr hmx
    by_cases h0 : 1 ≤ t.length ∧ t.length ≤ 24
    · simp only [decide_eq_true h0, Bool.true_and] at hb
      have HB := Lib.hid hb
      obtain ⟨g1, g2⟩ := h0
      clear hb
      go_enter Tryd.func46, Tryd.ntmps46
      go_wp2_with (go_at_call 54; refine (HU.out _).mono ?_; rintro e w1 ⟨v, rfl, hown, b1⟩; obtain ⟨g, cap, rfl⟩ := owned_some hown g1)
      go_wp2_with fail
      go_loop [25] (fun i => ∃ (k : Nat), i = .int .i64 k ∧ k ≤ t.length ∧ Hid ((t.drop k).all Gly.plainB = t.all Gly.plainB)) (fun i => t.length - (intOf i).toNat)
      case atStart => exact ⟨0, rfl, by omega, rfl⟩
      case round =>
        obtain ⟨k, rfl, hk, HS⟩ := hrel
        by_cases hlt : k < t.length
        · have hd : t.drop k = t[k] :: t.drop (k + 1) := List.drop_eq_getElem_cons hlt
          have hall := HS.out
          rw [hd, List.all_cons] at hall
          have hcell := hown.cellAt k (by rw [Nat.mul_one]; exact hlt)
          rw [show (nums t)[k]? = some (.int .i64 (t[k] : Int)) by simp [nums, hlt]] at hcell
          have hmk := HM.out _ (List.getElem_mem hlt)
          have hpl := fun W => plain_any t[k] hmk W
          generalize t[k] = r at *
          clear hd
          cases hp : Gly.plainB r with
          | true =>
            rw [hp] at hall hpl
            have HA := Lib.hid hall
            have HP := Lib.hid hpl
            clear hall hpl hp
            go_wp2_with (go_at_call 55; refine (HP.out _).mono ?_; rintro e w2 ⟨rfl, rfl⟩)
            go_round
            case rel => exact ⟨k + 1, by go_num, by omega, Lib.hid (by rw [← HA.out]; simp)⟩
            case measure => simp [intOf]; omega
          | false =>
            rw [hp] at hall hpl
            have HA := Lib.hid hall
            have HP := Lib.hid hpl
            clear hall hpl hp
            go_wp2_with (go_at_call 55; refine (HP.out _).mono ?_; rintro e w2 ⟨rfl, rfl⟩)
            go_ret
            exact ⟨by rw [HB.out, ← HA.out]; rfl, b1⟩
        · have hall := HS.out
          rw [List.drop_of_length_le (by omega)] at hall
          have HA := Lib.hid hall
          clear hall
          go_wp2
          go_ret
          exact ⟨by rw [HB.out, ← HA.out]; rfl, b1⟩
    · simp only [decide_eq_false h0, Bool.false_and] at hb
      have HB := Lib.hid hb
      clear hb
      rcases (show t.length < 1 ∨ 24 < t.length by omega) with h1 | h1
      all_goals
        clear h0
        go_enter Tryd.func46, Tryd.ntmps46
        go_wp2_with (go_at_call 54; refine (HU.out _).mono ?_; rintro e w1 ⟨v, rfl, hown, b1⟩; obtain ⟨ao, cap, rfl⟩ := owned_any hown)
        go_ret
        exact ⟨by rw [HB.out]; rfl, b1⟩
end Ref
end Go.Proofs.YtoeaapomjjclaaaDoor
