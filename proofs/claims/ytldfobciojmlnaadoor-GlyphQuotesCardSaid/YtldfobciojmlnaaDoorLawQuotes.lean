/-
  GlyphQuotes, at every text: true. (The row and the card: below.)
-/
import Derived.Test.YtldfobciojmlnaaDoorUnqPure
import Derived.Test.YtldfobciojmlnaaDoorQuoteRef
import Derived.Test.YtldfobciojmlnaaDoorAwake
import Derived.Test.YtldfobciojmlnaaDoorGlyC
namespace Go.Proofs.YtldfobciojmlnaaDoor
open Go.RowKit
namespace LawQuotes

set_option maxHeartbeats 2000000 in
set_option maxRecDepth 100000 in
theorem walk (s : ByteArray) (w : World) (hs : s.size ≤ maxLen) (hT : Num.Tab w) :
    Calls Tryd.prog 6 #[.string s] w fun e w' => e = .returned (.bool true) ∧ Below w.heap.size w w' := by
  unfold maxLen at hs
  have HA := Lib.hid (fun w hT => Ref.awake_any w hT)
  have HT := Lib.hid hT
  clear hT
  by_cases hl : s.size ≤ 1000
  · obtain ⟨Q, hQ⟩ : ∃ Q : ByteArray, Q = ⟨(Gly.quote s.data.toList).toArray⟩ := ⟨_, rfl⟩
    have hQl : Q.data.toList = Gly.quote s.data.toList := by rw [hQ]
    have hQs : Q.size ≤ 100000 := by
      have := Gly.quote_len s.data.toList
      rw [← Lib.size_eq, ← hQl, ← Lib.size_eq] at this
      omega
    have hq := fun w h => Gl.quote_any s w (by omega) h
    have hr := fun w => Ref.quote_any s w (by omega)
    have hu := fun w h => Gl.unquote_any Q w hQs h
    have hv := fun w => Gl.valid_any Q w (by omega)
    rw [hQl, Gly.unq_quote] at hu
    rw [hQl, Gly.cnt, Option.isSome_map, Gly.ok_quote] at hv
    rw [← hQ] at hq hr
    have hsb : (⟨s.data.toList.toArray⟩ : ByteArray) = s := by apply ByteArray.ext; apply Array.ext'; rfl
    simp only [Gl.unqV, hsb] at hu
    have HQ := Lib.hid hq
    have HR := Lib.hid hr
    have HU := Lib.hid hu
    have HV := Lib.hid hv
    clear hq hr hu hv hQ hQl hsb
    go_enter Tryd.func6, Tryd.ntmps6
    go_wp2_with (go_at_call 9; refine (HA.out _ HT.out).mono ?_; rintro e w1 ⟨rfl, b1⟩)
    go_wp2_with (go_at_call 19; refine (HQ.out _ (HT.out.below b1)).mono ?_; rintro e w2 ⟨rfl, b2⟩)
    replace b2 := b1.trans (b2.mono b1.size)
    go_wp2_with (go_at_call 20; refine (HU.out _ (HT.out.below b2)).mono ?_; rintro e w3 ⟨rfl, b3⟩)
    replace b3 := b2.trans (b3.mono b2.size)
    go_wp2_with (go_at_call 21; refine (HR.out _).mono ?_; rintro e w4 ⟨rfl, b4⟩)
    replace b4 := b3.trans (b4.mono b3.size)
    go_wp2_with (go_at_call 12; refine (HV.out _).mono ?_; rintro e w5 ⟨rfl, b5⟩)
    replace b5 := b4.trans (b5.mono b4.size)
    go_ret
    exact ⟨rfl, b5⟩
  · go_enter Tryd.func6, Tryd.ntmps6
    go_wp2_with fail
    refine (HA.out _ HT.out).mono ?_
    rintro e w1 ⟨rfl, b1⟩
    go_wp2_with fail
    refine (HA.out _ (HT.out.below b1)).mono ?_
    rintro e w2 ⟨rfl, b2⟩
    replace b2 := b1.trans (b2.mono b1.size)
    go_wp2
    go_ret
    exact ⟨rfl, b2⟩
end LawQuotes
end Go.Proofs.YtldfobciojmlnaaDoor
