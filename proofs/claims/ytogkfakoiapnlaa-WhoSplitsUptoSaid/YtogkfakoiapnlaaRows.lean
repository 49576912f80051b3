/-
  No cell of these rows narrows 'for every input' (looked for: loops, veiled, ifaces, maps, wideKeys, modest, calm, conditions, laid).
  DERIVED. THE GIVEN ROWS OF THIS SEAT. 3 by the template 'for every input the law returns true; each argument reads behind the call as it read before'; 0 by the template 'total and deterministic' (their statements: YtogkfakoiapnlaaTotals.lean).
  GIVEN WITH THE SEED: the statements are not yours to turn. If you find one false, say at which input.
  Laid BY PROGRAM, IN A SANDBOX (cutbox-rows.mjs): the forced cells as the released guide's own fill.sh prints them over the translation 0952ee128eedb7bf… (all of the seat's roots in one cut). By AI agents, Wed Nov 11 2026. No macro, syntax, notation, axiom, sorry.
-/
import Derived.Test.YtogkfakoiapnlaaChecked
import GoSem.Claim
import GoSem.ClaimJoined
import GoSem.ClaimMapViews
import Derived.JoinedTies
import Derived.KernelRfl
namespace Go.Proofs.Ytogkfakoiapnlaa
/- THE CELL 'sum', in the pinned program and in every row, IS THE sha256 OF THE DUMP (.gsa) THAT YtogkfakoiapnlaaProg.lean LOADS. Nothing in Lean hashes anything: it is a label: what it is worth is what the hold of that sum in a sandbox is worth. -/
noncomputable def Try.pinned : Pinned := { name := "ytogkfakoiapnlaa", sum := "0952ee128eedb7bf961dfdd9de6b4256ab73c7507c908da30df0cfb53d9f4087", checked := Try.checked }
namespace Rows
def none {H : Type} : Left H := { results := [], args := [] }

/-- 'stilelaw02.WhoTexts': WHATEVER THE INPUT: true; the input reads as it did. -/
def whoTextsSpec : ChangeSpec := { name := "whoTexts", fn := fun _ => fun
  | [d] => { results := [.lit (.bool true)], args := [d] }
  | _ => none }
def whoTextsRow : OpenClaim := { program := "ytogkfakoiapnlaa", sum := "0952ee128eedb7bf961dfdd9de6b4256ab73c7507c908da30df0cfb53d9f4087", func := "stile/stilelaw02.WhoTexts", spec := "whoTexts", inPlace := ["internal/bytealg.IndexByteString", "internal/bytealg.IndexString"], named := ["internal/bytealg.MaxLen"], apart := false }
def WhoTextsSaid : Prop := whoTextsRow.holds Try.pinned (OpenSpec.ofChange whoTextsSpec)

/-- ITS FALSE NEIGHBOUR: 'it returns false'. Refute it at one input. -/
def whoTextsWrong : ChangeSpec := { name := "whoTexts", fn := fun _ => fun
  | [d] => { results := [.lit (.bool false)], args := [d] }
  | _ => none }
def WhoTextsWrongFalsely : Prop := whoTextsRow.holds Try.pinned (OpenSpec.ofChange whoTextsWrong)

/-- 'stilelaw02.WhoReads': WHATEVER THE INPUT: true; the input reads as it did. -/
def whoReadsSpec : ChangeSpec := { name := "whoReads", fn := fun _ => fun
  | [d] => { results := [.lit (.bool true)], args := [d] }
  | _ => none }
def whoReadsRow : OpenClaim := { program := "ytogkfakoiapnlaa", sum := "0952ee128eedb7bf961dfdd9de6b4256ab73c7507c908da30df0cfb53d9f4087", func := "stile/stilelaw02.WhoReads", spec := "whoReads", inPlace := ["internal/bytealg.IndexByteString", "internal/bytealg.IndexString"], named := ["internal/bytealg.MaxLen"], apart := false }
def WhoReadsSaid : Prop := whoReadsRow.holds Try.pinned (OpenSpec.ofChange whoReadsSpec)

/-- ITS FALSE NEIGHBOUR: 'it returns false'. Refute it at one input. -/
def whoReadsWrong : ChangeSpec := { name := "whoReads", fn := fun _ => fun
  | [d] => { results := [.lit (.bool false)], args := [d] }
  | _ => none }
def WhoReadsWrongFalsely : Prop := whoReadsRow.holds Try.pinned (OpenSpec.ofChange whoReadsWrong)

/-- 'stilelaw02.WhoSplits': WHATEVER THE INPUT: true; the input reads as it did. -/
def whoSplitsSpec : ChangeSpec := { name := "whoSplits", fn := fun _ => fun
  | [d1, d2] => { results := [.lit (.bool true)], args := [d1, d2] }
  | _ => none }
def whoSplitsRow : OpenClaim := { program := "ytogkfakoiapnlaa", sum := "0952ee128eedb7bf961dfdd9de6b4256ab73c7507c908da30df0cfb53d9f4087", func := "stile/stilelaw02.WhoSplits", spec := "whoSplits", inPlace := ["internal/bytealg.IndexByteString", "internal/bytealg.IndexString"], named := ["internal/bytealg.MaxLen"], apart := false }
def WhoSplitsSaid : Prop := whoSplitsRow.holds Try.pinned (OpenSpec.ofChange whoSplitsSpec)

/-- ITS FALSE NEIGHBOUR: 'it returns false'. Refute it at one input. -/
def whoSplitsWrong : ChangeSpec := { name := "whoSplits", fn := fun _ => fun
  | [d1, d2] => { results := [.lit (.bool false)], args := [d1, d2] }
  | _ => none }
def WhoSplitsWrongFalsely : Prop := whoSplitsRow.holds Try.pinned (OpenSpec.ofChange whoSplitsWrong)

/- THE SECOND FORM. 'bulk': how many values and letters a reading holds, each counted each time it is reached (what is shared counts as often as it is met; a slice's spare places count too). A statement '..UptoSaid' is the law's where the arguments, and the package variables that the reading takes, are together of bulk at most 1048576: NARROWER than '..Said'. Prove '..Said' where nothing that the law and all that it calls make is longer than what came in: it says more and counts as full. Else prove '..UptoSaid'. A law counts once. -/
mutual
def uptoBulk {H : Type} : DataW H → Nat
  | .lit (.string bytes) => bytes.length + 1
  | .lit _ => 1
  | .nil => 1
  | .ptr d => uptoBulk d + 1
  | .slice elems spare => uptoBulkAll elems + uptoBulkAll spare + 1
  | .agg parts => uptoBulkAll parts + 1
  | .iface _ d => uptoBulk d + 1
  | .map entries => uptoBulkEntries entries + 1
  | .held _ => 1
def uptoBulkAll {H : Type} : List (DataW H) → Nat
  | [] => 0
  | d :: r => uptoBulk d + uptoBulkAll r
def uptoBulkEntries {H : Type} : List (Lit × DataW H) → Nat
  | [] => 0
  | x :: r => uptoBulkEntry x + uptoBulkEntries r
def uptoBulkEntry {H : Type} : Lit × DataW H → Nat
  | (.string bytes, d) => bytes.length + uptoBulk d + 1
  | (_, d) => uptoBulk d + 1
 end
def uptoSmall : (H : Type) → List (DataW H) → Bool := fun _ ds => decide (uptoBulkAll ds ≤ 1048576)
def OpenSpec.upto (s : _root_.Go.ChangeSpec) : _root_.Go.OpenSpec := { _root_.Go.OpenSpec.ofChange s with cond := some uptoSmall }

/-- 'stilelaw02.WhoTexts', WHERE WHAT IT READS IS OF BULK AT MOST 1048576: true; the input reads as it did. -/
def whoTextsUptoRow : OpenClaim := { program := "ytogkfakoiapnlaa", sum := "0952ee128eedb7bf961dfdd9de6b4256ab73c7507c908da30df0cfb53d9f4087", func := "stile/stilelaw02.WhoTexts", spec := "whoTexts", inPlace := ["internal/bytealg.IndexByteString", "internal/bytealg.IndexString"], named := ["internal/bytealg.MaxLen"], apart := false, narrowed := true }
def WhoTextsUptoSaid : Prop := whoTextsUptoRow.holds Try.pinned (OpenSpec.upto whoTextsSpec)

/-- 'stilelaw02.WhoReads', WHERE WHAT IT READS IS OF BULK AT MOST 1048576: true; the input reads as it did. -/
def whoReadsUptoRow : OpenClaim := { program := "ytogkfakoiapnlaa", sum := "0952ee128eedb7bf961dfdd9de6b4256ab73c7507c908da30df0cfb53d9f4087", func := "stile/stilelaw02.WhoReads", spec := "whoReads", inPlace := ["internal/bytealg.IndexByteString", "internal/bytealg.IndexString"], named := ["internal/bytealg.MaxLen"], apart := false, narrowed := true }
def WhoReadsUptoSaid : Prop := whoReadsUptoRow.holds Try.pinned (OpenSpec.upto whoReadsSpec)

/-- 'stilelaw02.WhoSplits', WHERE WHAT IT READS IS OF BULK AT MOST 1048576: true; the input reads as it did. -/
def whoSplitsUptoRow : OpenClaim := { program := "ytogkfakoiapnlaa", sum := "0952ee128eedb7bf961dfdd9de6b4256ab73c7507c908da30df0cfb53d9f4087", func := "stile/stilelaw02.WhoSplits", spec := "whoSplits", inPlace := ["internal/bytealg.IndexByteString", "internal/bytealg.IndexString"], named := ["internal/bytealg.MaxLen"], apart := false, narrowed := true }
def WhoSplitsUptoSaid : Prop := whoSplitsUptoRow.holds Try.pinned (OpenSpec.upto whoSplitsSpec)

end Rows
end Go.Proofs.Ytogkfakoiapnlaa
