/-
  GlyphCounts, at every text: true. (The row and the card: below.)
-/
import Derived.Test.YtldfobciojmlnaaDoorRunes
namespace Go.Proofs.YtldfobciojmlnaaDoor
open Go.RowKit
namespace LawCounts

set_option maxHeartbeats 2000000 in
set_option maxRecDepth 100000 in
theorem walk (s : ByteArray) (w : World) (hs : s.size ≤ maxLen) (hT : Num.Tab w) :
    Calls Tryd.prog 3 #[.string s] w fun e w' => e = .returned (.bool true) ∧ Below w.heap.size w w' := by
  unfold maxLen at hs
  have HA := Lib.hid (fun w hT => Ref.awake_any w hT)
  have HT := Lib.hid hT
  clear hT
  by_cases hl : s.size ≤ 3000
  · cases hr : Gly.runes s.data.toList with
    | none =>
      have hc := fun w => Gl.count_any s w (by omega)
      have hv := fun w => Gl.valid_any s w (by omega)
      have hu := fun w => Ref.runes_any s w (by omega)
      rw [hr] at hu
      simp only [Gly.cnt, hr, Option.map_none, Gl.cntV, Option.isSome_none] at hc hv
      have HC := Lib.hid hc
      have HV := Lib.hid hv
      have HU := Lib.hid hu
      clear hc hv hu hr
      go_enter Tryd.func3, Tryd.ntmps3
      go_wp2_with (go_at_call 9; refine (HA.out _ HT.out).mono ?_; rintro e w1 ⟨rfl, b1⟩)
      go_wp2_with (go_at_call 10; refine (HC.out _).mono ?_; rintro e w2 ⟨rfl, b2⟩)
      replace b2 := b1.trans (b2.mono b1.size)
      go_wp2_with (go_at_call 11; refine (HU.out _).mono ?_; rintro e w3 ⟨rfl, b3⟩)
      replace b3 := b2.trans (b3.mono b2.size)
      go_wp2_with (go_at_call 12; refine (HV.out _).mono ?_; rintro e w4 ⟨rfl, b4⟩)
      replace b4 := b3.trans (b4.mono b3.size)
      go_ret
      exact ⟨rfl, b4⟩
    | some t =>
      have hc := fun w => Gl.count_any s w (by omega)
      have hv := fun w => Gl.valid_any s w (by omega)
      have hu := fun w => Ref.runes_any s w (by omega)
      rw [hr] at hu
      simp only [Gly.cnt, hr, Option.map_some, Gl.cntV, Option.isSome_some, Nat.zero_add] at hc hv
      have htl := Gly.runes_len _ _ (Nat.le_refl _) t hr
      rw [← Lib.size_eq] at htl
      have HC := Lib.hid hc
      have HV := Lib.hid hv
      have HU := Lib.hid hu
      clear hc hv hu hr
      go_enter Tryd.func3, Tryd.ntmps3
      go_wp2_with (go_at_call 9; refine (HA.out _ HT.out).mono ?_; rintro e w1 ⟨rfl, b1⟩)
      go_wp2_with (go_at_call 10; refine (HC.out _).mono ?_; rintro e w2 ⟨rfl, b2⟩)
      replace b2 := b1.trans (b2.mono b1.size)
      go_wp2_with (go_at_call 11; refine (HU.out _).mono ?_; rintro e w3 ⟨v, rfl, hown, b3⟩)
      replace b3 := b2.trans (b3.mono b2.size)
      obtain ⟨ao, cap, rfl⟩ : ∃ ao cap, v = .slice ao t.length cap := by
        rcases hown.2 with ⟨hv, h0⟩ | ⟨g, cap, cur, hv, _⟩
        · exact ⟨none, 0, by rw [hv, h0]⟩
        · exact ⟨_, _, hv⟩
      go_wp2_with (go_at_call 12; refine (HV.out _).mono ?_; rintro e w4 ⟨rfl, b4⟩)
      replace b4 := b3.trans (b4.mono b3.size)
      go_ret
      exact ⟨rfl, b4⟩
  · go_enter Tryd.func3, Tryd.ntmps3
    go_wp2_with fail
    refine (HA.out _ HT.out).mono ?_
    rintro e w1 ⟨rfl, b1⟩
    go_wp2_with fail
    refine (HA.out _ (HT.out.below b1)).mono ?_
    rintro e w2 ⟨rfl, b2⟩
    replace b2 := b1.trans (b2.mono b1.size)
    go_wp2
    go_ret
    exact ⟨rfl, b2⟩
end LawCounts
end Go.Proofs.YtldfobciojmlnaaDoor
