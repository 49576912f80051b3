/-
  No cell of these rows narrows 'for every input' (looked for: loops, veiled, ifaces, maps, wideKeys, modest, calm, conditions, laid).
  DERIVED. THE GIVEN ROWS OF THIS SEAT. 3 by the template 'for every input the law returns true; each argument reads behind the call as it read before'; 0 by the template 'total and deterministic' (their statements: YtbgbkhjcfchamaaTotals.lean).
  GIVEN WITH THE SEED: the statements are not yours to turn. If you find one false, say at which input.
  Laid BY PROGRAM, IN A SANDBOX (cutbox-rows.mjs): the forced cells as the released guide's own fill.sh prints them over the translation 6546f8c775c0d6f5… (all of the seat's roots in one cut). By AI agents, Wed Nov 11 2026. No macro, syntax, notation, axiom, sorry.
-/
import Derived.Test.YtbgbkhjcfchamaaChecked
import GoSem.Claim
import GoSem.ClaimJoined
import GoSem.ClaimMapViews
import Derived.JoinedTies
import Derived.KernelRfl
namespace Go.Proofs.Ytbgbkhjcfchamaa
/- THE CELL 'sum', in the pinned program and in every row, IS THE sha256 OF THE DUMP (.gsa) THAT YtbgbkhjcfchamaaProg.lean LOADS. Nothing in Lean hashes anything: it is a label: what it is worth is what the hold of that sum in a sandbox is worth. -/
noncomputable def Try.pinned : Pinned := { name := "ytbgbkhjcfchamaa", sum := "6546f8c775c0d6f5db65eb8b79e1de7478b6d98effff98075c7cf5457f5da6ee", checked := Try.checked }
namespace Rows
def none {H : Type} : Left H := { results := [], args := [] }

/-- 'stilelaw03.BondTexts': WHATEVER THE INPUT: true; the input reads as it did. -/
def bondTextsSpec : ChangeSpec := { name := "bondTexts", fn := fun _ => fun
  | [d] => { results := [.lit (.bool true)], args := [d] }
  | _ => none }
def bondTextsRow : OpenClaim := { program := "ytbgbkhjcfchamaa", sum := "6546f8c775c0d6f5db65eb8b79e1de7478b6d98effff98075c7cf5457f5da6ee", func := "stile/stilelaw03.BondTexts", spec := "bondTexts", inPlace := ["internal/bytealg.IndexByteString", "internal/bytealg.IndexString"], named := ["internal/bytealg.MaxLen"], apart := false }
def BondTextsSaid : Prop := bondTextsRow.holds Try.pinned (OpenSpec.ofChange bondTextsSpec)

/-- ITS FALSE NEIGHBOUR: 'it returns false'. Refute it at one input. -/
def bondTextsWrong : ChangeSpec := { name := "bondTexts", fn := fun _ => fun
  | [d] => { results := [.lit (.bool false)], args := [d] }
  | _ => none }
def BondTextsWrongFalsely : Prop := bondTextsRow.holds Try.pinned (OpenSpec.ofChange bondTextsWrong)

/-- 'stilelaw03.BondReads': WHATEVER THE INPUT: true; the input reads as it did. -/
def bondReadsSpec : ChangeSpec := { name := "bondReads", fn := fun _ => fun
  | [d] => { results := [.lit (.bool true)], args := [d] }
  | _ => none }
def bondReadsRow : OpenClaim := { program := "ytbgbkhjcfchamaa", sum := "6546f8c775c0d6f5db65eb8b79e1de7478b6d98effff98075c7cf5457f5da6ee", func := "stile/stilelaw03.BondReads", spec := "bondReads", inPlace := ["internal/bytealg.IndexByteString", "internal/bytealg.IndexString"], named := ["internal/bytealg.MaxLen"], apart := false }
def BondReadsSaid : Prop := bondReadsRow.holds Try.pinned (OpenSpec.ofChange bondReadsSpec)

/-- ITS FALSE NEIGHBOUR: 'it returns false'. Refute it at one input. -/
def bondReadsWrong : ChangeSpec := { name := "bondReads", fn := fun _ => fun
  | [d] => { results := [.lit (.bool false)], args := [d] }
  | _ => none }
def BondReadsWrongFalsely : Prop := bondReadsRow.holds Try.pinned (OpenSpec.ofChange bondReadsWrong)

/-- 'stilelaw03.BondOwn': WHATEVER THE INPUT: true; the input reads as it did. -/
def bondOwnSpec : ChangeSpec := { name := "bondOwn", fn := fun _ => fun
  | [d1, d2, d3] => { results := [.lit (.bool true)], args := [d1, d2, d3] }
  | _ => none }
def bondOwnRow : OpenClaim := { program := "ytbgbkhjcfchamaa", sum := "6546f8c775c0d6f5db65eb8b79e1de7478b6d98effff98075c7cf5457f5da6ee", func := "stile/stilelaw03.BondOwn", spec := "bondOwn", inPlace := ["internal/bytealg.IndexByteString", "internal/bytealg.IndexString"], named := ["internal/bytealg.MaxLen"], apart := false }
def BondOwnSaid : Prop := bondOwnRow.holds Try.pinned (OpenSpec.ofChange bondOwnSpec)

/-- ITS FALSE NEIGHBOUR: 'it returns false'. Refute it at one input. -/
def bondOwnWrong : ChangeSpec := { name := "bondOwn", fn := fun _ => fun
  | [d1, d2, d3] => { results := [.lit (.bool false)], args := [d1, d2, d3] }
  | _ => none }
def BondOwnWrongFalsely : Prop := bondOwnRow.holds Try.pinned (OpenSpec.ofChange bondOwnWrong)

/- THE SECOND FORM. 'bulk': how many values and letters a reading holds, each counted each time it is reached (what is shared counts as often as it is met; a slice's spare places count too). A statement '..UptoSaid' is the law's where the arguments, and the package variables that the reading takes, are together of bulk at most 1048576: NARROWER than '..Said'. Prove '..Said' where nothing that the law and all that it calls make is longer than what came in: it says more and counts as full. Else prove '..UptoSaid'. A law counts once. -/
mutual
def uptoBulk {H : Type} : DataW H → Nat
  | .lit (.string bytes) => bytes.length + 1
  | .lit _ => 1
  | .nil => 1
  | .ptr d => uptoBulk d + 1
  | .slice elems spare => uptoBulkAll elems + uptoBulkAll spare + 1
  | .agg parts => uptoBulkAll parts + 1
  | .iface _ d => uptoBulk d + 1
  | .map entries => uptoBulkEntries entries + 1
  | .held _ => 1
def uptoBulkAll {H : Type} : List (DataW H) → Nat
  | [] => 0
  | d :: r => uptoBulk d + uptoBulkAll r
def uptoBulkEntries {H : Type} : List (Lit × DataW H) → Nat
  | [] => 0
  | x :: r => uptoBulkEntry x + uptoBulkEntries r
def uptoBulkEntry {H : Type} : Lit × DataW H → Nat
  | (.string bytes, d) => bytes.length + uptoBulk d + 1
  | (_, d) => uptoBulk d + 1
 end
def uptoSmall : (H : Type) → List (DataW H) → Bool := fun _ ds => decide (uptoBulkAll ds ≤ 1048576)
def OpenSpec.upto (s : _root_.Go.ChangeSpec) : _root_.Go.OpenSpec := { _root_.Go.OpenSpec.ofChange s with cond := some uptoSmall }

/-- 'stilelaw03.BondTexts', WHERE WHAT IT READS IS OF BULK AT MOST 1048576: true; the input reads as it did. -/
def bondTextsUptoRow : OpenClaim := { program := "ytbgbkhjcfchamaa", sum := "6546f8c775c0d6f5db65eb8b79e1de7478b6d98effff98075c7cf5457f5da6ee", func := "stile/stilelaw03.BondTexts", spec := "bondTexts", inPlace := ["internal/bytealg.IndexByteString", "internal/bytealg.IndexString"], named := ["internal/bytealg.MaxLen"], apart := false, narrowed := true }
def BondTextsUptoSaid : Prop := bondTextsUptoRow.holds Try.pinned (OpenSpec.upto bondTextsSpec)

/-- 'stilelaw03.BondReads', WHERE WHAT IT READS IS OF BULK AT MOST 1048576: true; the input reads as it did. -/
def bondReadsUptoRow : OpenClaim := { program := "ytbgbkhjcfchamaa", sum := "6546f8c775c0d6f5db65eb8b79e1de7478b6d98effff98075c7cf5457f5da6ee", func := "stile/stilelaw03.BondReads", spec := "bondReads", inPlace := ["internal/bytealg.IndexByteString", "internal/bytealg.IndexString"], named := ["internal/bytealg.MaxLen"], apart := false, narrowed := true }
def BondReadsUptoSaid : Prop := bondReadsUptoRow.holds Try.pinned (OpenSpec.upto bondReadsSpec)

/-- 'stilelaw03.BondOwn', WHERE WHAT IT READS IS OF BULK AT MOST 1048576: true; the input reads as it did. -/
def bondOwnUptoRow : OpenClaim := { program := "ytbgbkhjcfchamaa", sum := "6546f8c775c0d6f5db65eb8b79e1de7478b6d98effff98075c7cf5457f5da6ee", func := "stile/stilelaw03.BondOwn", spec := "bondOwn", inPlace := ["internal/bytealg.IndexByteString", "internal/bytealg.IndexString"], named := ["internal/bytealg.MaxLen"], apart := false, narrowed := true }
def BondOwnUptoSaid : Prop := bondOwnUptoRow.holds Try.pinned (OpenSpec.upto bondOwnSpec)

end Rows
end Go.Proofs.Ytbgbkhjcfchamaa
