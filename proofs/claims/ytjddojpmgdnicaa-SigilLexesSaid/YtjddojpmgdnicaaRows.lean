/-
  No cell of these rows narrows 'for every input' (looked for: loops, veiled, ifaces, maps, wideKeys, modest, calm, conditions, laid).
  DERIVED. THE GIVEN ROWS OF THIS SEAT. 5 by the template 'for every input the law returns true; each argument reads behind the call as it read before'; 0 by the template 'total and deterministic' (their statements: YtjddojpmgdnicaaTotals.lean).
  GIVEN WITH THE SEED: the statements are not yours to turn. If you find one false, say at which input.
  Laid BY PROGRAM, IN A SANDBOX (cutbox-rows.mjs): the forced cells as the released guide's own fill.sh prints them over the translation dbd583a1fd9838b0… (all of the seat's roots in one cut). By AI agents, Wed Nov 11 2026. No macro, syntax, notation, axiom, sorry.
-/
import Derived.Test.YtjddojpmgdnicaaChecked
import GoSem.Claim
import GoSem.ClaimJoined
import GoSem.ClaimMapViews
import Derived.JoinedTies
import Derived.KernelRfl
namespace Go.Proofs.Ytjddojpmgdnicaa
/- THE CELL 'sum', in the pinned program and in every row, IS THE sha256 OF THE DUMP (.gsa) THAT YtjddojpmgdnicaaProg.lean LOADS. Nothing in Lean hashes anything: it is a label: what it is worth is what the hold of that sum in a sandbox is worth. -/
noncomputable def Try.pinned : Pinned := { name := "ytjddojpmgdnicaa", sum := "dbd583a1fd9838b021e69de3d3a1151335bd9711e2de251f2c60651808ed1336", checked := Try.checked }
namespace Rows
def none {H : Type} : Left H := { results := [], args := [] }

/-- 'stilelaw06.SigilLexes': WHATEVER THE INPUT: true; the input reads as it did. -/
def sigilLexesSpec : ChangeSpec := { name := "sigilLexes", fn := fun _ => fun
  | [d] => { results := [.lit (.bool true)], args := [d] }
  | _ => none }
def sigilLexesRow : OpenClaim := { program := "ytjddojpmgdnicaa", sum := "dbd583a1fd9838b021e69de3d3a1151335bd9711e2de251f2c60651808ed1336", func := "stile/stilelaw06.SigilLexes", spec := "sigilLexes", unfollowed := true, recurses := true, apart := false }
def SigilLexesSaid : Prop := sigilLexesRow.holds Try.pinned (OpenSpec.ofChange sigilLexesSpec)

/-- ITS FALSE NEIGHBOUR: 'it returns false'. Refute it at one input. -/
def sigilLexesWrong : ChangeSpec := { name := "sigilLexes", fn := fun _ => fun
  | [d] => { results := [.lit (.bool false)], args := [d] }
  | _ => none }
def SigilLexesWrongFalsely : Prop := sigilLexesRow.holds Try.pinned (OpenSpec.ofChange sigilLexesWrong)

/-- 'stilelaw06.SigilLong': WHATEVER THE INPUT: true; the input reads as it did. -/
def sigilLongSpec : ChangeSpec := { name := "sigilLong", fn := fun _ => fun
  | [d1, d2] => { results := [.lit (.bool true)], args := [d1, d2] }
  | _ => none }
def sigilLongRow : OpenClaim := { program := "ytjddojpmgdnicaa", sum := "dbd583a1fd9838b021e69de3d3a1151335bd9711e2de251f2c60651808ed1336", func := "stile/stilelaw06.SigilLong", spec := "sigilLong", inPlace := ["internal/abi.NoEscape", "internal/bytealg.MakeNoZero"], unfollowed := true, recurses := true, apart := false }
def SigilLongSaid : Prop := sigilLongRow.holds Try.pinned (OpenSpec.ofChange sigilLongSpec)

/-- ITS FALSE NEIGHBOUR: 'it returns false'. Refute it at one input. -/
def sigilLongWrong : ChangeSpec := { name := "sigilLong", fn := fun _ => fun
  | [d1, d2] => { results := [.lit (.bool false)], args := [d1, d2] }
  | _ => none }
def SigilLongWrongFalsely : Prop := sigilLongRow.holds Try.pinned (OpenSpec.ofChange sigilLongWrong)

/-- 'stilelaw06.SigilPlaces': WHATEVER THE INPUT: true; the input reads as it did. -/
def sigilPlacesSpec : ChangeSpec := { name := "sigilPlaces", fn := fun _ => fun
  | [d] => { results := [.lit (.bool true)], args := [d] }
  | _ => none }
def sigilPlacesRow : OpenClaim := { program := "ytjddojpmgdnicaa", sum := "dbd583a1fd9838b021e69de3d3a1151335bd9711e2de251f2c60651808ed1336", func := "stile/stilelaw06.SigilPlaces", spec := "sigilPlaces", unfollowed := true, recurses := true, apart := false }
def SigilPlacesSaid : Prop := sigilPlacesRow.holds Try.pinned (OpenSpec.ofChange sigilPlacesSpec)

/-- ITS FALSE NEIGHBOUR: 'it returns false'. Refute it at one input. -/
def sigilPlacesWrong : ChangeSpec := { name := "sigilPlaces", fn := fun _ => fun
  | [d] => { results := [.lit (.bool false)], args := [d] }
  | _ => none }
def SigilPlacesWrongFalsely : Prop := sigilPlacesRow.holds Try.pinned (OpenSpec.ofChange sigilPlacesWrong)

/-- 'stilelaw06.SigilBlanks': WHATEVER THE INPUT: true; the input reads as it did. -/
def sigilBlanksSpec : ChangeSpec := { name := "sigilBlanks", fn := fun _ => fun
  | [d1, d2, d3] => { results := [.lit (.bool true)], args := [d1, d2, d3] }
  | _ => none }
def sigilBlanksRow : OpenClaim := { program := "ytjddojpmgdnicaa", sum := "dbd583a1fd9838b021e69de3d3a1151335bd9711e2de251f2c60651808ed1336", func := "stile/stilelaw06.SigilBlanks", spec := "sigilBlanks", unfollowed := true, recurses := true, apart := false }
def SigilBlanksSaid : Prop := sigilBlanksRow.holds Try.pinned (OpenSpec.ofChange sigilBlanksSpec)

/-- ITS FALSE NEIGHBOUR: 'it returns false'. Refute it at one input. -/
def sigilBlanksWrong : ChangeSpec := { name := "sigilBlanks", fn := fun _ => fun
  | [d1, d2, d3] => { results := [.lit (.bool false)], args := [d1, d2, d3] }
  | _ => none }
def SigilBlanksWrongFalsely : Prop := sigilBlanksRow.holds Try.pinned (OpenSpec.ofChange sigilBlanksWrong)

/-- 'stilelaw06.SigilAgain': WHATEVER THE INPUT: true; the input reads as it did. -/
def sigilAgainSpec : ChangeSpec := { name := "sigilAgain", fn := fun _ => fun
  | [d] => { results := [.lit (.bool true)], args := [d] }
  | _ => none }
def sigilAgainRow : OpenClaim := { program := "ytjddojpmgdnicaa", sum := "dbd583a1fd9838b021e69de3d3a1151335bd9711e2de251f2c60651808ed1336", func := "stile/stilelaw06.SigilAgain", spec := "sigilAgain", unfollowed := true, recurses := true, apart := false }
def SigilAgainSaid : Prop := sigilAgainRow.holds Try.pinned (OpenSpec.ofChange sigilAgainSpec)

/-- ITS FALSE NEIGHBOUR: 'it returns false'. Refute it at one input. -/
def sigilAgainWrong : ChangeSpec := { name := "sigilAgain", fn := fun _ => fun
  | [d] => { results := [.lit (.bool false)], args := [d] }
  | _ => none }
def SigilAgainWrongFalsely : Prop := sigilAgainRow.holds Try.pinned (OpenSpec.ofChange sigilAgainWrong)

/- THE SECOND FORM. 'bulk': how many values and letters a reading holds, each counted each time it is reached (what is shared counts as often as it is met; a slice's spare places count too). A statement '..UptoSaid' is the law's where the arguments, and the package variables that the reading takes, are together of bulk at most 1048576: NARROWER than '..Said'. Prove '..Said' where nothing that the law and all that it calls make is longer than what came in: it says more and counts as full. Else prove '..UptoSaid'. A law counts once. -/
mutual
def uptoBulk {H : Type} : DataW H → Nat
  | .lit (.string bytes) => bytes.length + 1
  | .lit _ => 1
  | .nil => 1
  | .ptr d => uptoBulk d + 1
  | .slice elems spare => uptoBulkAll elems + uptoBulkAll spare + 1
  | .agg parts => uptoBulkAll parts + 1
  | .iface _ d => uptoBulk d + 1
  | .map entries => uptoBulkEntries entries + 1
  | .held _ => 1
def uptoBulkAll {H : Type} : List (DataW H) → Nat
  | [] => 0
  | d :: r => uptoBulk d + uptoBulkAll r
def uptoBulkEntries {H : Type} : List (Lit × DataW H) → Nat
  | [] => 0
  | x :: r => uptoBulkEntry x + uptoBulkEntries r
def uptoBulkEntry {H : Type} : Lit × DataW H → Nat
  | (.string bytes, d) => bytes.length + uptoBulk d + 1
  | (_, d) => uptoBulk d + 1
 end
def uptoSmall : (H : Type) → List (DataW H) → Bool := fun _ ds => decide (uptoBulkAll ds ≤ 1048576)
def OpenSpec.upto (s : _root_.Go.ChangeSpec) : _root_.Go.OpenSpec := { _root_.Go.OpenSpec.ofChange s with cond := some uptoSmall }

/-- 'stilelaw06.SigilLexes', WHERE WHAT IT READS IS OF BULK AT MOST 1048576: true; the input reads as it did. -/
def sigilLexesUptoRow : OpenClaim := { program := "ytjddojpmgdnicaa", sum := "dbd583a1fd9838b021e69de3d3a1151335bd9711e2de251f2c60651808ed1336", func := "stile/stilelaw06.SigilLexes", spec := "sigilLexes", unfollowed := true, recurses := true, apart := false, narrowed := true }
def SigilLexesUptoSaid : Prop := sigilLexesUptoRow.holds Try.pinned (OpenSpec.upto sigilLexesSpec)

/-- 'stilelaw06.SigilLong', WHERE WHAT IT READS IS OF BULK AT MOST 1048576: true; the input reads as it did. -/
def sigilLongUptoRow : OpenClaim := { program := "ytjddojpmgdnicaa", sum := "dbd583a1fd9838b021e69de3d3a1151335bd9711e2de251f2c60651808ed1336", func := "stile/stilelaw06.SigilLong", spec := "sigilLong", inPlace := ["internal/abi.NoEscape", "internal/bytealg.MakeNoZero"], unfollowed := true, recurses := true, apart := false, narrowed := true }
def SigilLongUptoSaid : Prop := sigilLongUptoRow.holds Try.pinned (OpenSpec.upto sigilLongSpec)

/-- 'stilelaw06.SigilPlaces', WHERE WHAT IT READS IS OF BULK AT MOST 1048576: true; the input reads as it did. -/
def sigilPlacesUptoRow : OpenClaim := { program := "ytjddojpmgdnicaa", sum := "dbd583a1fd9838b021e69de3d3a1151335bd9711e2de251f2c60651808ed1336", func := "stile/stilelaw06.SigilPlaces", spec := "sigilPlaces", unfollowed := true, recurses := true, apart := false, narrowed := true }
def SigilPlacesUptoSaid : Prop := sigilPlacesUptoRow.holds Try.pinned (OpenSpec.upto sigilPlacesSpec)

/-- 'stilelaw06.SigilBlanks', WHERE WHAT IT READS IS OF BULK AT MOST 1048576: true; the input reads as it did. -/
def sigilBlanksUptoRow : OpenClaim := { program := "ytjddojpmgdnicaa", sum := "dbd583a1fd9838b021e69de3d3a1151335bd9711e2de251f2c60651808ed1336", func := "stile/stilelaw06.SigilBlanks", spec := "sigilBlanks", unfollowed := true, recurses := true, apart := false, narrowed := true }
def SigilBlanksUptoSaid : Prop := sigilBlanksUptoRow.holds Try.pinned (OpenSpec.upto sigilBlanksSpec)

/-- 'stilelaw06.SigilAgain', WHERE WHAT IT READS IS OF BULK AT MOST 1048576: true; the input reads as it did. -/
def sigilAgainUptoRow : OpenClaim := { program := "ytjddojpmgdnicaa", sum := "dbd583a1fd9838b021e69de3d3a1151335bd9711e2de251f2c60651808ed1336", func := "stile/stilelaw06.SigilAgain", spec := "sigilAgain", unfollowed := true, recurses := true, apart := false, narrowed := true }
def SigilAgainUptoSaid : Prop := sigilAgainUptoRow.holds Try.pinned (OpenSpec.upto sigilAgainSpec)

end Rows
end Go.Proofs.Ytjddojpmgdnicaa
