/-
  No cell of these rows narrows 'for every input' (looked for: loops, veiled, ifaces, maps, wideKeys, modest, calm, conditions, laid).
  DERIVED. THE GIVEN ROWS OF THIS SEAT. 11 by the template 'for every input the law returns true; each argument reads behind the call as it read before'; 0 by the template 'total and deterministic' (their statements: YtkfmmdiflbnhgaaTotals.lean).
  GIVEN WITH THE SEED: the statements are not yours to turn. If you find one false, say at which input.
  Laid BY PROGRAM, IN A SANDBOX (cutbox-rows.mjs): the forced cells as the released guide's own fill.sh prints them over the translation c024de62971a3705… (all of the seat's roots in one cut). By AI agents, Wed Nov 11 2026. No macro, syntax, notation, axiom, sorry.
-/
import Derived.Test.YtkfmmdiflbnhgaaChecked
import GoSem.Claim
import GoSem.ClaimJoined
import GoSem.ClaimMapViews
import Derived.JoinedTies
import Derived.KernelRfl
namespace Go.Proofs.Ytkfmmdiflbnhgaa
/- THE CELL 'sum', in the pinned program and in every row, IS THE sha256 OF THE DUMP (.gsa) THAT YtkfmmdiflbnhgaaProg.lean LOADS. Nothing in Lean hashes anything: it is a label: what it is worth is what the hold of that sum in a sandbox is worth. -/
noncomputable def Try.pinned : Pinned := { name := "ytkfmmdiflbnhgaa", sum := "c024de62971a370565866ead2cc49cd5fbafb21acaada69b9ee32846c3e17ce8", checked := Try.checked }
namespace Rows
def none {H : Type} : Left H := { results := [], args := [] }

/-- 'stilelaw13.SpoolSums': WHATEVER THE INPUT: true; the input reads as it did. -/
def spoolSumsSpec : ChangeSpec := { name := "spoolSums", fn := fun _ => fun
  | [d] => { results := [.lit (.bool true)], args := [d] }
  | _ => none }
def spoolSumsRow : OpenClaim := { program := "ytkfmmdiflbnhgaa", sum := "c024de62971a370565866ead2cc49cd5fbafb21acaada69b9ee32846c3e17ce8", func := "stile/stilelaw13.SpoolSums", spec := "spoolSums", apart := false }
def SpoolSumsSaid : Prop := spoolSumsRow.holds Try.pinned (OpenSpec.ofChange spoolSumsSpec)

/-- ITS FALSE NEIGHBOUR: 'it returns false'. Refute it at one input. -/
def spoolSumsWrong : ChangeSpec := { name := "spoolSums", fn := fun _ => fun
  | [d] => { results := [.lit (.bool false)], args := [d] }
  | _ => none }
def SpoolSumsWrongFalsely : Prop := spoolSumsRow.holds Try.pinned (OpenSpec.ofChange spoolSumsWrong)

/-- 'stilelaw13.SpoolPlays': WHATEVER THE INPUT: true; the input reads as it did. -/
def spoolPlaysSpec : ChangeSpec := { name := "spoolPlays", fn := fun _ => fun
  | [d1, d2, d3] => { results := [.lit (.bool true)], args := [d1, d2, d3] }
  | _ => none }
def spoolPlaysRow : OpenClaim := { program := "ytkfmmdiflbnhgaa", sum := "c024de62971a370565866ead2cc49cd5fbafb21acaada69b9ee32846c3e17ce8", func := "stile/stilelaw13.SpoolPlays", spec := "spoolPlays", apart := false }
def SpoolPlaysSaid : Prop := spoolPlaysRow.holds Try.pinned (OpenSpec.ofChange spoolPlaysSpec)

/-- ITS FALSE NEIGHBOUR: 'it returns false'. Refute it at one input. -/
def spoolPlaysWrong : ChangeSpec := { name := "spoolPlays", fn := fun _ => fun
  | [d1, d2, d3] => { results := [.lit (.bool false)], args := [d1, d2, d3] }
  | _ => none }
def SpoolPlaysWrongFalsely : Prop := spoolPlaysRow.holds Try.pinned (OpenSpec.ofChange spoolPlaysWrong)

/-- 'stilelaw13.SpoolKeeps': WHATEVER THE INPUT: true; the input reads as it did. -/
def spoolKeepsSpec : ChangeSpec := { name := "spoolKeeps", fn := fun _ => fun
  | [d1, d2] => { results := [.lit (.bool true)], args := [d1, d2] }
  | _ => none }
def spoolKeepsRow : OpenClaim := { program := "ytkfmmdiflbnhgaa", sum := "c024de62971a370565866ead2cc49cd5fbafb21acaada69b9ee32846c3e17ce8", func := "stile/stilelaw13.SpoolKeeps", spec := "spoolKeeps", apart := false }
def SpoolKeepsSaid : Prop := spoolKeepsRow.holds Try.pinned (OpenSpec.ofChange spoolKeepsSpec)

/-- ITS FALSE NEIGHBOUR: 'it returns false'. Refute it at one input. -/
def spoolKeepsWrong : ChangeSpec := { name := "spoolKeeps", fn := fun _ => fun
  | [d1, d2] => { results := [.lit (.bool false)], args := [d1, d2] }
  | _ => none }
def SpoolKeepsWrongFalsely : Prop := spoolKeepsRow.holds Try.pinned (OpenSpec.ofChange spoolKeepsWrong)

/-- 'stilelaw13.SpoolFinds': WHATEVER THE INPUT: true; the input reads as it did. -/
def spoolFindsSpec : ChangeSpec := { name := "spoolFinds", fn := fun _ => fun
  | [d1, d2, d3] => { results := [.lit (.bool true)], args := [d1, d2, d3] }
  | _ => none }
def spoolFindsRow : OpenClaim := { program := "ytkfmmdiflbnhgaa", sum := "c024de62971a370565866ead2cc49cd5fbafb21acaada69b9ee32846c3e17ce8", func := "stile/stilelaw13.SpoolFinds", spec := "spoolFinds", apart := false }
def SpoolFindsSaid : Prop := spoolFindsRow.holds Try.pinned (OpenSpec.ofChange spoolFindsSpec)

/-- ITS FALSE NEIGHBOUR: 'it returns false'. Refute it at one input. -/
def spoolFindsWrong : ChangeSpec := { name := "spoolFinds", fn := fun _ => fun
  | [d1, d2, d3] => { results := [.lit (.bool false)], args := [d1, d2, d3] }
  | _ => none }
def SpoolFindsWrongFalsely : Prop := spoolFindsRow.holds Try.pinned (OpenSpec.ofChange spoolFindsWrong)

/-- 'stilelaw13.SpoolRoom': WHATEVER THE INPUT: true; the input reads as it did. -/
def spoolRoomSpec : ChangeSpec := { name := "spoolRoom", fn := fun _ => fun
  | [d1, d2] => { results := [.lit (.bool true)], args := [d1, d2] }
  | _ => none }
def spoolRoomRow : OpenClaim := { program := "ytkfmmdiflbnhgaa", sum := "c024de62971a370565866ead2cc49cd5fbafb21acaada69b9ee32846c3e17ce8", func := "stile/stilelaw13.SpoolRoom", spec := "spoolRoom", apart := false }
def SpoolRoomSaid : Prop := spoolRoomRow.holds Try.pinned (OpenSpec.ofChange spoolRoomSpec)

/-- ITS FALSE NEIGHBOUR: 'it returns false'. Refute it at one input. -/
def spoolRoomWrong : ChangeSpec := { name := "spoolRoom", fn := fun _ => fun
  | [d1, d2] => { results := [.lit (.bool false)], args := [d1, d2] }
  | _ => none }
def SpoolRoomWrongFalsely : Prop := spoolRoomRow.holds Try.pinned (OpenSpec.ofChange spoolRoomWrong)

/-- 'stilelaw13.SpoolLaps': WHATEVER THE INPUT: true; the input reads as it did. -/
def spoolLapsSpec : ChangeSpec := { name := "spoolLaps", fn := fun _ => fun
  | [d1, d2] => { results := [.lit (.bool true)], args := [d1, d2] }
  | _ => none }
def spoolLapsRow : OpenClaim := { program := "ytkfmmdiflbnhgaa", sum := "c024de62971a370565866ead2cc49cd5fbafb21acaada69b9ee32846c3e17ce8", func := "stile/stilelaw13.SpoolLaps", spec := "spoolLaps", apart := false }
def SpoolLapsSaid : Prop := spoolLapsRow.holds Try.pinned (OpenSpec.ofChange spoolLapsSpec)

/-- ITS FALSE NEIGHBOUR: 'it returns false'. Refute it at one input. -/
def spoolLapsWrong : ChangeSpec := { name := "spoolLaps", fn := fun _ => fun
  | [d1, d2] => { results := [.lit (.bool false)], args := [d1, d2] }
  | _ => none }
def SpoolLapsWrongFalsely : Prop := spoolLapsRow.holds Try.pinned (OpenSpec.ofChange spoolLapsWrong)

/-- 'stilelaw14.HoardPlays': WHATEVER THE INPUT: true; the input reads as it did. -/
def hoardPlaysSpec : ChangeSpec := { name := "hoardPlays", fn := fun _ => fun
  | [d1, d2, d3] => { results := [.lit (.bool true)], args := [d1, d2, d3] }
  | _ => none }
def hoardPlaysRow : OpenClaim := { program := "ytkfmmdiflbnhgaa", sum := "c024de62971a370565866ead2cc49cd5fbafb21acaada69b9ee32846c3e17ce8", func := "stile/stilelaw14.HoardPlays", spec := "hoardPlays", unfollowed := true, recurses := true, apart := false }
def HoardPlaysSaid : Prop := hoardPlaysRow.holds Try.pinned (OpenSpec.ofChange hoardPlaysSpec)

/-- ITS FALSE NEIGHBOUR: 'it returns false'. Refute it at one input. -/
def hoardPlaysWrong : ChangeSpec := { name := "hoardPlays", fn := fun _ => fun
  | [d1, d2, d3] => { results := [.lit (.bool false)], args := [d1, d2, d3] }
  | _ => none }
def HoardPlaysWrongFalsely : Prop := hoardPlaysRow.holds Try.pinned (OpenSpec.ofChange hoardPlaysWrong)

/-- 'stilelaw14.HoardKeeps': WHATEVER THE INPUT: true; the input reads as it did. -/
def hoardKeepsSpec : ChangeSpec := { name := "hoardKeeps", fn := fun _ => fun
  | [d1, d2] => { results := [.lit (.bool true)], args := [d1, d2] }
  | _ => none }
def hoardKeepsRow : OpenClaim := { program := "ytkfmmdiflbnhgaa", sum := "c024de62971a370565866ead2cc49cd5fbafb21acaada69b9ee32846c3e17ce8", func := "stile/stilelaw14.HoardKeeps", spec := "hoardKeeps", unfollowed := true, recurses := true, apart := false }
def HoardKeepsSaid : Prop := hoardKeepsRow.holds Try.pinned (OpenSpec.ofChange hoardKeepsSpec)

/-- ITS FALSE NEIGHBOUR: 'it returns false'. Refute it at one input. -/
def hoardKeepsWrong : ChangeSpec := { name := "hoardKeeps", fn := fun _ => fun
  | [d1, d2] => { results := [.lit (.bool false)], args := [d1, d2] }
  | _ => none }
def HoardKeepsWrongFalsely : Prop := hoardKeepsRow.holds Try.pinned (OpenSpec.ofChange hoardKeepsWrong)

/-- 'stilelaw14.HoardAgain': WHATEVER THE INPUT: true; the input reads as it did. -/
def hoardAgainSpec : ChangeSpec := { name := "hoardAgain", fn := fun _ => fun
  | [d1, d2, d3] => { results := [.lit (.bool true)], args := [d1, d2, d3] }
  | _ => none }
def hoardAgainRow : OpenClaim := { program := "ytkfmmdiflbnhgaa", sum := "c024de62971a370565866ead2cc49cd5fbafb21acaada69b9ee32846c3e17ce8", func := "stile/stilelaw14.HoardAgain", spec := "hoardAgain", unfollowed := true, recurses := true, apart := false }
def HoardAgainSaid : Prop := hoardAgainRow.holds Try.pinned (OpenSpec.ofChange hoardAgainSpec)

/-- ITS FALSE NEIGHBOUR: 'it returns false'. Refute it at one input. -/
def hoardAgainWrong : ChangeSpec := { name := "hoardAgain", fn := fun _ => fun
  | [d1, d2, d3] => { results := [.lit (.bool false)], args := [d1, d2, d3] }
  | _ => none }
def HoardAgainWrongFalsely : Prop := hoardAgainRow.holds Try.pinned (OpenSpec.ofChange hoardAgainWrong)

/-- 'stilelaw14.HoardMarks': WHATEVER THE INPUT: true; the input reads as it did. -/
def hoardMarksSpec : ChangeSpec := { name := "hoardMarks", fn := fun _ => fun
  | [d1, d2, d3] => { results := [.lit (.bool true)], args := [d1, d2, d3] }
  | _ => none }
def hoardMarksRow : OpenClaim := { program := "ytkfmmdiflbnhgaa", sum := "c024de62971a370565866ead2cc49cd5fbafb21acaada69b9ee32846c3e17ce8", func := "stile/stilelaw14.HoardMarks", spec := "hoardMarks", unfollowed := true, recurses := true, apart := false }
def HoardMarksSaid : Prop := hoardMarksRow.holds Try.pinned (OpenSpec.ofChange hoardMarksSpec)

/-- ITS FALSE NEIGHBOUR: 'it returns false'. Refute it at one input. -/
def hoardMarksWrong : ChangeSpec := { name := "hoardMarks", fn := fun _ => fun
  | [d1, d2, d3] => { results := [.lit (.bool false)], args := [d1, d2, d3] }
  | _ => none }
def HoardMarksWrongFalsely : Prop := hoardMarksRow.holds Try.pinned (OpenSpec.ofChange hoardMarksWrong)

/-- 'stilelaw14.HoardImages': WHATEVER THE INPUT: true; the input reads as it did. -/
def hoardImagesSpec : ChangeSpec := { name := "hoardImages", fn := fun _ => fun
  | [d1, d2] => { results := [.lit (.bool true)], args := [d1, d2] }
  | _ => none }
def hoardImagesRow : OpenClaim := { program := "ytkfmmdiflbnhgaa", sum := "c024de62971a370565866ead2cc49cd5fbafb21acaada69b9ee32846c3e17ce8", func := "stile/stilelaw14.HoardImages", spec := "hoardImages", unfollowed := true, recurses := true, apart := false }
def HoardImagesSaid : Prop := hoardImagesRow.holds Try.pinned (OpenSpec.ofChange hoardImagesSpec)

/-- ITS FALSE NEIGHBOUR: 'it returns false'. Refute it at one input. -/
def hoardImagesWrong : ChangeSpec := { name := "hoardImages", fn := fun _ => fun
  | [d1, d2] => { results := [.lit (.bool false)], args := [d1, d2] }
  | _ => none }
def HoardImagesWrongFalsely : Prop := hoardImagesRow.holds Try.pinned (OpenSpec.ofChange hoardImagesWrong)

/- THE SECOND FORM. 'bulk': how many values and letters a reading holds, each counted each time it is reached (what is shared counts as often as it is met; a slice's spare places count too). A statement '..UptoSaid' is the law's where the arguments, and the package variables that the reading takes, are together of bulk at most 1048576: NARROWER than '..Said'. Prove '..Said' where nothing that the law and all that it calls make is longer than what came in: it says more and counts as full. Else prove '..UptoSaid'. A law counts once. -/
mutual
def uptoBulk {H : Type} : DataW H → Nat
  | .lit (.string bytes) => bytes.length + 1
  | .lit _ => 1
  | .nil => 1
  | .ptr d => uptoBulk d + 1
  | .slice elems spare => uptoBulkAll elems + uptoBulkAll spare + 1
  | .agg parts => uptoBulkAll parts + 1
  | .iface _ d => uptoBulk d + 1
  | .map entries => uptoBulkEntries entries + 1
  | .held _ => 1
def uptoBulkAll {H : Type} : List (DataW H) → Nat
  | [] => 0
  | d :: r => uptoBulk d + uptoBulkAll r
def uptoBulkEntries {H : Type} : List (Lit × DataW H) → Nat
  | [] => 0
  | x :: r => uptoBulkEntry x + uptoBulkEntries r
def uptoBulkEntry {H : Type} : Lit × DataW H → Nat
  | (.string bytes, d) => bytes.length + uptoBulk d + 1
  | (_, d) => uptoBulk d + 1
 end
def uptoSmall : (H : Type) → List (DataW H) → Bool := fun _ ds => decide (uptoBulkAll ds ≤ 1048576)
def OpenSpec.upto (s : _root_.Go.ChangeSpec) : _root_.Go.OpenSpec := { _root_.Go.OpenSpec.ofChange s with cond := some uptoSmall }

/-- 'stilelaw13.SpoolSums', WHERE WHAT IT READS IS OF BULK AT MOST 1048576: true; the input reads as it did. -/
def spoolSumsUptoRow : OpenClaim := { program := "ytkfmmdiflbnhgaa", sum := "c024de62971a370565866ead2cc49cd5fbafb21acaada69b9ee32846c3e17ce8", func := "stile/stilelaw13.SpoolSums", spec := "spoolSums", apart := false, narrowed := true }
def SpoolSumsUptoSaid : Prop := spoolSumsUptoRow.holds Try.pinned (OpenSpec.upto spoolSumsSpec)

/-- 'stilelaw13.SpoolPlays', WHERE WHAT IT READS IS OF BULK AT MOST 1048576: true; the input reads as it did. -/
def spoolPlaysUptoRow : OpenClaim := { program := "ytkfmmdiflbnhgaa", sum := "c024de62971a370565866ead2cc49cd5fbafb21acaada69b9ee32846c3e17ce8", func := "stile/stilelaw13.SpoolPlays", spec := "spoolPlays", apart := false, narrowed := true }
def SpoolPlaysUptoSaid : Prop := spoolPlaysUptoRow.holds Try.pinned (OpenSpec.upto spoolPlaysSpec)

/-- 'stilelaw13.SpoolKeeps', WHERE WHAT IT READS IS OF BULK AT MOST 1048576: true; the input reads as it did. -/
def spoolKeepsUptoRow : OpenClaim := { program := "ytkfmmdiflbnhgaa", sum := "c024de62971a370565866ead2cc49cd5fbafb21acaada69b9ee32846c3e17ce8", func := "stile/stilelaw13.SpoolKeeps", spec := "spoolKeeps", apart := false, narrowed := true }
def SpoolKeepsUptoSaid : Prop := spoolKeepsUptoRow.holds Try.pinned (OpenSpec.upto spoolKeepsSpec)

/-- 'stilelaw13.SpoolFinds', WHERE WHAT IT READS IS OF BULK AT MOST 1048576: true; the input reads as it did. -/
def spoolFindsUptoRow : OpenClaim := { program := "ytkfmmdiflbnhgaa", sum := "c024de62971a370565866ead2cc49cd5fbafb21acaada69b9ee32846c3e17ce8", func := "stile/stilelaw13.SpoolFinds", spec := "spoolFinds", apart := false, narrowed := true }
def SpoolFindsUptoSaid : Prop := spoolFindsUptoRow.holds Try.pinned (OpenSpec.upto spoolFindsSpec)

/-- 'stilelaw13.SpoolRoom', WHERE WHAT IT READS IS OF BULK AT MOST 1048576: true; the input reads as it did. -/
def spoolRoomUptoRow : OpenClaim := { program := "ytkfmmdiflbnhgaa", sum := "c024de62971a370565866ead2cc49cd5fbafb21acaada69b9ee32846c3e17ce8", func := "stile/stilelaw13.SpoolRoom", spec := "spoolRoom", apart := false, narrowed := true }
def SpoolRoomUptoSaid : Prop := spoolRoomUptoRow.holds Try.pinned (OpenSpec.upto spoolRoomSpec)

/-- 'stilelaw13.SpoolLaps', WHERE WHAT IT READS IS OF BULK AT MOST 1048576: true; the input reads as it did. -/
def spoolLapsUptoRow : OpenClaim := { program := "ytkfmmdiflbnhgaa", sum := "c024de62971a370565866ead2cc49cd5fbafb21acaada69b9ee32846c3e17ce8", func := "stile/stilelaw13.SpoolLaps", spec := "spoolLaps", apart := false, narrowed := true }
def SpoolLapsUptoSaid : Prop := spoolLapsUptoRow.holds Try.pinned (OpenSpec.upto spoolLapsSpec)

/-- 'stilelaw14.HoardPlays', WHERE WHAT IT READS IS OF BULK AT MOST 1048576: true; the input reads as it did. -/
def hoardPlaysUptoRow : OpenClaim := { program := "ytkfmmdiflbnhgaa", sum := "c024de62971a370565866ead2cc49cd5fbafb21acaada69b9ee32846c3e17ce8", func := "stile/stilelaw14.HoardPlays", spec := "hoardPlays", unfollowed := true, recurses := true, apart := false, narrowed := true }
def HoardPlaysUptoSaid : Prop := hoardPlaysUptoRow.holds Try.pinned (OpenSpec.upto hoardPlaysSpec)

/-- 'stilelaw14.HoardKeeps', WHERE WHAT IT READS IS OF BULK AT MOST 1048576: true; the input reads as it did. -/
def hoardKeepsUptoRow : OpenClaim := { program := "ytkfmmdiflbnhgaa", sum := "c024de62971a370565866ead2cc49cd5fbafb21acaada69b9ee32846c3e17ce8", func := "stile/stilelaw14.HoardKeeps", spec := "hoardKeeps", unfollowed := true, recurses := true, apart := false, narrowed := true }
def HoardKeepsUptoSaid : Prop := hoardKeepsUptoRow.holds Try.pinned (OpenSpec.upto hoardKeepsSpec)

/-- 'stilelaw14.HoardAgain', WHERE WHAT IT READS IS OF BULK AT MOST 1048576: true; the input reads as it did. -/
def hoardAgainUptoRow : OpenClaim := { program := "ytkfmmdiflbnhgaa", sum := "c024de62971a370565866ead2cc49cd5fbafb21acaada69b9ee32846c3e17ce8", func := "stile/stilelaw14.HoardAgain", spec := "hoardAgain", unfollowed := true, recurses := true, apart := false, narrowed := true }
def HoardAgainUptoSaid : Prop := hoardAgainUptoRow.holds Try.pinned (OpenSpec.upto hoardAgainSpec)

/-- 'stilelaw14.HoardMarks', WHERE WHAT IT READS IS OF BULK AT MOST 1048576: true; the input reads as it did. -/
def hoardMarksUptoRow : OpenClaim := { program := "ytkfmmdiflbnhgaa", sum := "c024de62971a370565866ead2cc49cd5fbafb21acaada69b9ee32846c3e17ce8", func := "stile/stilelaw14.HoardMarks", spec := "hoardMarks", unfollowed := true, recurses := true, apart := false, narrowed := true }
def HoardMarksUptoSaid : Prop := hoardMarksUptoRow.holds Try.pinned (OpenSpec.upto hoardMarksSpec)

/-- 'stilelaw14.HoardImages', WHERE WHAT IT READS IS OF BULK AT MOST 1048576: true; the input reads as it did. -/
def hoardImagesUptoRow : OpenClaim := { program := "ytkfmmdiflbnhgaa", sum := "c024de62971a370565866ead2cc49cd5fbafb21acaada69b9ee32846c3e17ce8", func := "stile/stilelaw14.HoardImages", spec := "hoardImages", unfollowed := true, recurses := true, apart := false, narrowed := true }
def HoardImagesUptoSaid : Prop := hoardImagesUptoRow.holds Try.pinned (OpenSpec.upto hoardImagesSpec)

end Rows
end Go.Proofs.Ytkfmmdiflbnhgaa
