/-
  strings.Clone: the same text.
-/
import Derived.Test.YtbphmaoomnocmaaDoorBase
namespace Go.Proofs.YtbphmaoomnocmaaDoor
open Go.RowKit
namespace Who

theorem clone_any (s : ByteArray) (w : World) (hs : s.size ≤ 4000000) :
    Calls Tryd.prog 63 #[.string s] w fun e w' => e = .returned (.string s) ∧ Below w.heap.size w w' := by
  go_enter Tryd.func63, Tryd.ntmps63
  go_wp2_with (go_at_call 91; refine (Tryd.stringslite_Clone s _ (by omega)).mono ?_; rintro e w1 ⟨rfl, b1⟩)
  go_ret
  exact ⟨rfl, b1⟩
end Who
end Go.Proofs.YtbphmaoomnocmaaDoor
