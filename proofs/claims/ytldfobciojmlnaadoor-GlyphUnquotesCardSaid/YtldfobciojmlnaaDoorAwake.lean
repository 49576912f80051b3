/-
  The fixed fact with which each statement of layer 1 begins.
-/
import Derived.Test.YtldfobciojmlnaaDoorQuote
namespace Go.Proofs.YtldfobciojmlnaaDoor
open Go.RowKit
namespace Ref

theorem fact1 : Gly.idB [195, 164] = true := by decide +kernel
theorem fact2 : Gly.idB [97, 32, 98] = false := by decide +kernel
theorem fact3 : Gly.quote [97, 10, 255] = [34, 97, 92, 117, 123, 97, 125, 92, 120, 123, 102, 102, 125, 34] := by decide +kernel

set_option maxHeartbeats 1000000 in
theorem awake_any (w : World) (hT : Num.Tab w) :
    Calls Tryd.prog 9 #[] w fun e w' => e = .returned (.bool true) ∧ Below w.heap.size w w' := by
  have h1 := fun w => Gl.id_any ⟨#[195, 164]⟩ w (by decide)
  have h2 := fun w => Gl.id_any ⟨#[97, 32, 98]⟩ w (by decide)
  have h3 := fun w hT => Gl.quote_any ⟨#[97, 10, 255]⟩ w (by decide) hT
  simp only [fact1, fact2, fact3] at h1 h2 h3
  have H1 := Lib.hid h1
  have H2 := Lib.hid h2
  have H3 := Lib.hid h3
  have HT := Lib.hid hT
  clear h1 h2 h3 hT
  go_enter Tryd.func9, Tryd.ntmps9
  go_wp2_with fail
  refine (H1.out _).mono ?_
  rintro e w1 ⟨rfl, b1⟩
  go_wp2_with fail
  refine (H2.out _).mono ?_
  rintro e w2 ⟨rfl, b2⟩
  replace b2 := b1.trans (b2.mono b1.size)
  go_wp2_with fail
  refine (H3.out _ (HT.out.below b2)).mono ?_
  rintro e w3 ⟨rfl, b3⟩
  replace b3 := b2.trans (b3.mono b2.size)
  go_wp2
  go_ret
  exact ⟨rfl, b3⟩

end Ref
end Go.Proofs.YtldfobciojmlnaaDoor
