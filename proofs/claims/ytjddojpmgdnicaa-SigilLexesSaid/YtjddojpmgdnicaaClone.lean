/-
  strings.Clone: the same text.
-/
import Derived.Test.YtjddojpmgdnicaaBase
namespace Go.Proofs.Ytjddojpmgdnicaa
open Go.RowKit
namespace Who

theorem clone_any (s : ByteArray) (w : World) (hs : s.size ≤ 4000000) :
    Calls Try.prog 17 #[.string s] w fun e w' => e = .returned (.string s) ∧ Below w.heap.size w w' := by
  go_enter Try.func17, Try.ntmps17
  go_wp2_with (go_at_call 38; refine (Try.stringslite_Clone s _ (by omega)).mono ?_; rintro e w1 ⟨rfl, b1⟩)
  go_ret
  exact ⟨rfl, b1⟩
end Who
end Go.Proofs.Ytjddojpmgdnicaa
