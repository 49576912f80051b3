/-
  NARROWER THAN 'FOR EVERY INPUT', by the rows' own cells (each row's printed sentence says how): GrammarExprs: laid · GrammarParses: laid · GrammarNests: laid · GrammarJoins: laid · GrammarJoint: laid.
  DERIVED. THE GIVEN ROWS OF THIS SEAT. 5 by the template 'for every input the law returns true; each argument reads behind the call as it read before'; 0 by the template 'total and deterministic' (their statements: YtbphmaoomnocmaaDoorTotals.lean).
  GIVEN WITH THE SEED: the statements are not yours to turn. If you find one false, say at which input.
  Laid BY PROGRAM, IN A SANDBOX (cutbox-rows.mjs): the forced cells as the released guide's own fill.sh prints them over the translation d65efaf64fa5687f… (all of the seat's roots in one cut). By AI agents, Wed Nov 11 2026. No macro, syntax, notation, axiom, sorry.
-/
import Derived.Test.YtbphmaoomnocmaaDoorChecked
import GoSem.Claim
import GoSem.ClaimJoined
import GoSem.ClaimMapViews
import Derived.JoinedTies
import Derived.KernelRfl
namespace Go.Proofs.YtbphmaoomnocmaaDoor
/- THE CELL 'sum', in the pinned program and in every row, IS THE sha256 OF THE DUMP (.gsa) THAT YtbphmaoomnocmaaDoorProg.lean LOADS. Nothing in Lean hashes anything: it is a label: what it is worth is what the hold of that sum in a sandbox is worth. -/
noncomputable def Tryd.pinned : Pinned := { name := "ytbphmaoomnocmaadoor", sum := "d65efaf64fa5687f2476fc784d11aa0dc1d734966eb45a49284645e7bb2abd1b", checked := Tryd.checked }
namespace Rows
def none {H : Type} : Left H := { results := [], args := [] }

/- WHAT THE LISTED PACKAGE-LEVEL VARIABLES READ AS WHEN THE CALL BEGINS. Each datum BY PROGRAM (the guide's laid-datum.mjs) off the statement by which the dump's own 'gosem.cut.vars' lays the variable. In a bare row this is a premise. The card (YtbphmaoomnocmaaDoorCards.lean) ties it to the program's text. -/
def laid_stile_grammar_errWrong {H : Type} : DataW H := .iface "*errors.errorString" (.ptr (.agg [.lit (.string [97, 32, 116, 111, 107, 101, 110, 32, 116, 104, 97, 116, 32, 99, 97, 110, 39, 116, 32, 115, 116, 97, 110, 100, 32, 104, 101, 114, 101])]))
def laid_stile_grammar_errDeep {H : Type} : DataW H := .iface "*errors.errorString" (.ptr (.agg [.lit (.string [97, 32, 98, 114, 97, 99, 107, 101, 116, 32, 119, 105, 116, 104, 105, 110, 32, 116, 111, 111, 32, 109, 97, 110, 121])]))

/-- 'stilelaw07.GrammarExprs': WHATEVER THE INPUT: true; the input reads as it did. -/
def grammarExprsSpec : ChangeSpec := { name := "grammarExprs", fn := fun _ => fun
  | [d] => { results := [.lit (.bool true)], args := [d] }
  | _ => none }
def grammarExprsRow : OpenClaim := { program := "ytbphmaoomnocmaadoor", sum := "d65efaf64fa5687f2476fc784d11aa0dc1d734966eb45a49284645e7bb2abd1b", func := "stile/stilelaw07.GrammarExprs", spec := "grammarExprs", inPlace := ["internal/reflectlite.TypeOf"], unfollowed := true, recurses := true, named := ["stile/grammar.errWrong", "stile/grammar.errDeep"], apart := false, laid := [("stile/grammar.errWrong", laid_stile_grammar_errWrong), ("stile/grammar.errDeep", laid_stile_grammar_errDeep)] }
def GrammarExprsSaid : Prop := grammarExprsRow.holds Tryd.pinned (OpenSpec.ofChange grammarExprsSpec)

/-- ITS FALSE NEIGHBOUR: 'it returns false'. Refute it at one input. -/
def grammarExprsWrong : ChangeSpec := { name := "grammarExprs", fn := fun _ => fun
  | [d] => { results := [.lit (.bool false)], args := [d] }
  | _ => none }
def GrammarExprsWrongFalsely : Prop := grammarExprsRow.holds Tryd.pinned (OpenSpec.ofChange grammarExprsWrong)

/-- 'stilelaw07.GrammarParses': WHATEVER THE INPUT: true; the input reads as it did. -/
def grammarParsesSpec : ChangeSpec := { name := "grammarParses", fn := fun _ => fun
  | [d] => { results := [.lit (.bool true)], args := [d] }
  | _ => none }
def grammarParsesRow : OpenClaim := { program := "ytbphmaoomnocmaadoor", sum := "d65efaf64fa5687f2476fc784d11aa0dc1d734966eb45a49284645e7bb2abd1b", func := "stile/stilelaw07.GrammarParses", spec := "grammarParses", inPlace := ["internal/reflectlite.TypeOf"], unfollowed := true, recurses := true, named := ["stile/grammar.errWrong", "stile/grammar.errDeep"], apart := false, laid := [("stile/grammar.errWrong", laid_stile_grammar_errWrong), ("stile/grammar.errDeep", laid_stile_grammar_errDeep)] }
def GrammarParsesSaid : Prop := grammarParsesRow.holds Tryd.pinned (OpenSpec.ofChange grammarParsesSpec)

/-- ITS FALSE NEIGHBOUR: 'it returns false'. Refute it at one input. -/
def grammarParsesWrong : ChangeSpec := { name := "grammarParses", fn := fun _ => fun
  | [d] => { results := [.lit (.bool false)], args := [d] }
  | _ => none }
def GrammarParsesWrongFalsely : Prop := grammarParsesRow.holds Tryd.pinned (OpenSpec.ofChange grammarParsesWrong)

/-- 'stilelaw07.GrammarNests': WHATEVER THE INPUT: true; the input reads as it did. -/
def grammarNestsSpec : ChangeSpec := { name := "grammarNests", fn := fun _ => fun
  | [d] => { results := [.lit (.bool true)], args := [d] }
  | _ => none }
def grammarNestsRow : OpenClaim := { program := "ytbphmaoomnocmaadoor", sum := "d65efaf64fa5687f2476fc784d11aa0dc1d734966eb45a49284645e7bb2abd1b", func := "stile/stilelaw07.GrammarNests", spec := "grammarNests", inPlace := ["internal/reflectlite.TypeOf", "internal/abi.NoEscape", "internal/bytealg.MakeNoZero"], unfollowed := true, recurses := true, named := ["stile/grammar.errWrong", "stile/grammar.errDeep"], apart := false, laid := [("stile/grammar.errWrong", laid_stile_grammar_errWrong), ("stile/grammar.errDeep", laid_stile_grammar_errDeep)] }
def GrammarNestsSaid : Prop := grammarNestsRow.holds Tryd.pinned (OpenSpec.ofChange grammarNestsSpec)

/-- ITS FALSE NEIGHBOUR: 'it returns false'. Refute it at one input. -/
def grammarNestsWrong : ChangeSpec := { name := "grammarNests", fn := fun _ => fun
  | [d] => { results := [.lit (.bool false)], args := [d] }
  | _ => none }
def GrammarNestsWrongFalsely : Prop := grammarNestsRow.holds Tryd.pinned (OpenSpec.ofChange grammarNestsWrong)

/-- 'stilelaw07.GrammarJoins': WHATEVER THE INPUT: true; the input reads as it did. -/
def grammarJoinsSpec : ChangeSpec := { name := "grammarJoins", fn := fun _ => fun
  | [d1, d2] => { results := [.lit (.bool true)], args := [d1, d2] }
  | _ => none }
def grammarJoinsRow : OpenClaim := { program := "ytbphmaoomnocmaadoor", sum := "d65efaf64fa5687f2476fc784d11aa0dc1d734966eb45a49284645e7bb2abd1b", func := "stile/stilelaw07.GrammarJoins", spec := "grammarJoins", inPlace := ["internal/reflectlite.TypeOf"], unfollowed := true, recurses := true, named := ["stile/grammar.errWrong", "stile/grammar.errDeep"], apart := false, laid := [("stile/grammar.errWrong", laid_stile_grammar_errWrong), ("stile/grammar.errDeep", laid_stile_grammar_errDeep)] }
def GrammarJoinsSaid : Prop := grammarJoinsRow.holds Tryd.pinned (OpenSpec.ofChange grammarJoinsSpec)

/-- ITS FALSE NEIGHBOUR: 'it returns false'. Refute it at one input. -/
def grammarJoinsWrong : ChangeSpec := { name := "grammarJoins", fn := fun _ => fun
  | [d1, d2] => { results := [.lit (.bool false)], args := [d1, d2] }
  | _ => none }
def GrammarJoinsWrongFalsely : Prop := grammarJoinsRow.holds Tryd.pinned (OpenSpec.ofChange grammarJoinsWrong)

/-- 'stilelaw07.GrammarJoint': WHATEVER THE INPUT: true; the input reads as it did. -/
def grammarJointSpec : ChangeSpec := { name := "grammarJoint", fn := fun _ => fun
  | [d1, d2, d3] => { results := [.lit (.bool true)], args := [d1, d2, d3] }
  | _ => none }
def grammarJointRow : OpenClaim := { program := "ytbphmaoomnocmaadoor", sum := "d65efaf64fa5687f2476fc784d11aa0dc1d734966eb45a49284645e7bb2abd1b", func := "stile/stilelaw07.GrammarJoint", spec := "grammarJoint", inPlace := ["internal/reflectlite.TypeOf", "internal/bytealg.IndexByteString", "internal/bytealg.IndexString"], unfollowed := true, recurses := true, named := ["stile/grammar.errWrong", "stile/grammar.errDeep", "internal/bytealg.MaxLen"], apart := false, laid := [("stile/grammar.errWrong", laid_stile_grammar_errWrong), ("stile/grammar.errDeep", laid_stile_grammar_errDeep)] }
def GrammarJointSaid : Prop := grammarJointRow.holds Tryd.pinned (OpenSpec.ofChange grammarJointSpec)

/-- ITS FALSE NEIGHBOUR: 'it returns false'. Refute it at one input. -/
def grammarJointWrong : ChangeSpec := { name := "grammarJoint", fn := fun _ => fun
  | [d1, d2, d3] => { results := [.lit (.bool false)], args := [d1, d2, d3] }
  | _ => none }
def GrammarJointWrongFalsely : Prop := grammarJointRow.holds Tryd.pinned (OpenSpec.ofChange grammarJointWrong)

/- THE SECOND FORM. 'bulk': how many values and letters a reading holds, each counted each time it is reached (what is shared counts as often as it is met; a slice's spare places count too). A statement '..UptoSaid' is the law's where the arguments, and the package variables that the reading takes, are together of bulk at most 1048576: NARROWER than '..Said'. Prove '..Said' where nothing that the law and all that it calls make is longer than what came in: it says more and counts as full. Else prove '..UptoSaid'. A law counts once. -/
mutual
def uptoBulk {H : Type} : DataW H → Nat
  | .lit (.string bytes) => bytes.length + 1
  | .lit _ => 1
  | .nil => 1
  | .ptr d => uptoBulk d + 1
  | .slice elems spare => uptoBulkAll elems + uptoBulkAll spare + 1
  | .agg parts => uptoBulkAll parts + 1
  | .iface _ d => uptoBulk d + 1
  | .map entries => uptoBulkEntries entries + 1
  | .held _ => 1
def uptoBulkAll {H : Type} : List (DataW H) → Nat
  | [] => 0
  | d :: r => uptoBulk d + uptoBulkAll r
def uptoBulkEntries {H : Type} : List (Lit × DataW H) → Nat
  | [] => 0
  | x :: r => uptoBulkEntry x + uptoBulkEntries r
def uptoBulkEntry {H : Type} : Lit × DataW H → Nat
  | (.string bytes, d) => bytes.length + uptoBulk d + 1
  | (_, d) => uptoBulk d + 1
 end
def uptoSmall : (H : Type) → List (DataW H) → Bool := fun _ ds => decide (uptoBulkAll ds ≤ 1048576)
def OpenSpec.upto (s : _root_.Go.ChangeSpec) : _root_.Go.OpenSpec := { _root_.Go.OpenSpec.ofChange s with cond := some uptoSmall }

/-- 'stilelaw07.GrammarExprs', WHERE WHAT IT READS IS OF BULK AT MOST 1048576: true; the input reads as it did. -/
def grammarExprsUptoRow : OpenClaim := { program := "ytbphmaoomnocmaadoor", sum := "d65efaf64fa5687f2476fc784d11aa0dc1d734966eb45a49284645e7bb2abd1b", func := "stile/stilelaw07.GrammarExprs", spec := "grammarExprs", inPlace := ["internal/reflectlite.TypeOf"], unfollowed := true, recurses := true, named := ["stile/grammar.errWrong", "stile/grammar.errDeep"], apart := false, laid := [("stile/grammar.errWrong", laid_stile_grammar_errWrong), ("stile/grammar.errDeep", laid_stile_grammar_errDeep)], narrowed := true }
def GrammarExprsUptoSaid : Prop := grammarExprsUptoRow.holds Tryd.pinned (OpenSpec.upto grammarExprsSpec)

/-- 'stilelaw07.GrammarParses', WHERE WHAT IT READS IS OF BULK AT MOST 1048576: true; the input reads as it did. -/
def grammarParsesUptoRow : OpenClaim := { program := "ytbphmaoomnocmaadoor", sum := "d65efaf64fa5687f2476fc784d11aa0dc1d734966eb45a49284645e7bb2abd1b", func := "stile/stilelaw07.GrammarParses", spec := "grammarParses", inPlace := ["internal/reflectlite.TypeOf"], unfollowed := true, recurses := true, named := ["stile/grammar.errWrong", "stile/grammar.errDeep"], apart := false, laid := [("stile/grammar.errWrong", laid_stile_grammar_errWrong), ("stile/grammar.errDeep", laid_stile_grammar_errDeep)], narrowed := true }
def GrammarParsesUptoSaid : Prop := grammarParsesUptoRow.holds Tryd.pinned (OpenSpec.upto grammarParsesSpec)

/-- 'stilelaw07.GrammarNests', WHERE WHAT IT READS IS OF BULK AT MOST 1048576: true; the input reads as it did. -/
def grammarNestsUptoRow : OpenClaim := { program := "ytbphmaoomnocmaadoor", sum := "d65efaf64fa5687f2476fc784d11aa0dc1d734966eb45a49284645e7bb2abd1b", func := "stile/stilelaw07.GrammarNests", spec := "grammarNests", inPlace := ["internal/reflectlite.TypeOf", "internal/abi.NoEscape", "internal/bytealg.MakeNoZero"], unfollowed := true, recurses := true, named := ["stile/grammar.errWrong", "stile/grammar.errDeep"], apart := false, laid := [("stile/grammar.errWrong", laid_stile_grammar_errWrong), ("stile/grammar.errDeep", laid_stile_grammar_errDeep)], narrowed := true }
def GrammarNestsUptoSaid : Prop := grammarNestsUptoRow.holds Tryd.pinned (OpenSpec.upto grammarNestsSpec)

/-- 'stilelaw07.GrammarJoins', WHERE WHAT IT READS IS OF BULK AT MOST 1048576: true; the input reads as it did. -/
def grammarJoinsUptoRow : OpenClaim := { program := "ytbphmaoomnocmaadoor", sum := "d65efaf64fa5687f2476fc784d11aa0dc1d734966eb45a49284645e7bb2abd1b", func := "stile/stilelaw07.GrammarJoins", spec := "grammarJoins", inPlace := ["internal/reflectlite.TypeOf"], unfollowed := true, recurses := true, named := ["stile/grammar.errWrong", "stile/grammar.errDeep"], apart := false, laid := [("stile/grammar.errWrong", laid_stile_grammar_errWrong), ("stile/grammar.errDeep", laid_stile_grammar_errDeep)], narrowed := true }
def GrammarJoinsUptoSaid : Prop := grammarJoinsUptoRow.holds Tryd.pinned (OpenSpec.upto grammarJoinsSpec)

/-- 'stilelaw07.GrammarJoint', WHERE WHAT IT READS IS OF BULK AT MOST 1048576: true; the input reads as it did. -/
def grammarJointUptoRow : OpenClaim := { program := "ytbphmaoomnocmaadoor", sum := "d65efaf64fa5687f2476fc784d11aa0dc1d734966eb45a49284645e7bb2abd1b", func := "stile/stilelaw07.GrammarJoint", spec := "grammarJoint", inPlace := ["internal/reflectlite.TypeOf", "internal/bytealg.IndexByteString", "internal/bytealg.IndexString"], unfollowed := true, recurses := true, named := ["stile/grammar.errWrong", "stile/grammar.errDeep", "internal/bytealg.MaxLen"], apart := false, laid := [("stile/grammar.errWrong", laid_stile_grammar_errWrong), ("stile/grammar.errDeep", laid_stile_grammar_errDeep)], narrowed := true }
def GrammarJointUptoSaid : Prop := grammarJointUptoRow.holds Tryd.pinned (OpenSpec.upto grammarJointSpec)

end Rows
end Go.Proofs.YtbphmaoomnocmaaDoor
