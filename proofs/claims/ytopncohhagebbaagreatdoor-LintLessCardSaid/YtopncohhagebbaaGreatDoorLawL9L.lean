/-
  Layer 9: LintLess' walk, upon the program's own Check.
-/
import Derived.Test.YtopncohhagebbaaGreatDoorLyCheck
import Derived.Test.YtopncohhagebbaaGreatDoorLtV
namespace Go.Proofs.YtopncohhagebbaaGreatDoor
open Go.RowKit
open Gr (Lies)
theorem LawL9Less.walk (ao : Option Addr) (cap : Nat) (l : List ByteArray) (us : List Value) (w : World) (hn : Lies Lt.IsTx 1 w ao l us) (hs : ∀ s ∈ l, s.size ≤ maxLen) (hcap : l.length ≤ cap) {a0 a1 : Addr} (hg : Gr.Glob a0 a1 w) :
    Calls Tryz.prog 4 #[.slice ao l.length cap] w fun e x => e = .returned (.bool true) ∧ Below w.heap.size w x := LawL9Less.walk_of Ly.check_ok ao cap l us w hn hs hcap hg
end Go.Proofs.YtopncohhagebbaaGreatDoor
