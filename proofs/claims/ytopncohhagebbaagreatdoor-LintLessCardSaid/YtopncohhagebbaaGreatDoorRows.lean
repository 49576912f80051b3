/-
  NARROWER THAN 'FOR EVERY INPUT', by the rows' own cells (each row's printed sentence says how): LintStrata: loops, laid · LintLess: laid · LintMore: loops, laid · LotFits: loops, laid · LotKnows: loops, laid · LotKnown: loops, laid.
  DERIVED. THE GIVEN ROWS OF THIS SEAT. 6 by the template 'for every input the law returns true; each argument reads behind the call as it read before'; 0 by the template 'total and deterministic' (their statements: YtopncohhagebbaaGreatDoorTotals.lean).
  GIVEN WITH THE SEED: the statements are not yours to turn. If you find one false, say at which input.
  Laid BY PROGRAM, IN A SANDBOX (cutbox-rows.mjs): the forced cells as the released guide's own fill.sh prints them over the translation 608820ccf31429f9… (all of the seat's roots in one cut). By AI agents, Wed Nov 11 2026. No macro, syntax, notation, axiom, sorry.
-/
import Derived.Test.YtopncohhagebbaaGreatDoorChecked
import GoSem.Claim
import GoSem.ClaimJoined
import GoSem.ClaimMapViews
import Derived.JoinedTies
import Derived.KernelRfl
namespace Go.Proofs.YtopncohhagebbaaGreatDoor
/- THE CELL 'sum', in the pinned program and in every row, IS THE sha256 OF THE DUMP (.gsa) THAT YtopncohhagebbaaGreatDoorProg.lean LOADS. Nothing in Lean hashes anything: it is a label: what it is worth is what the hold of that sum in a sandbox is worth. -/
noncomputable def Tryz.pinned : Pinned := { name := "ytopncohhagebbaagreatdoor", sum := "608820ccf31429f987f7b3dc4f8a8274a833a8b58012b607309b03a915d035a1", checked := Tryz.checked }
namespace Rows
def none {H : Type} : Left H := { results := [], args := [] }

/- WHAT THE LISTED PACKAGE-LEVEL VARIABLES READ AS WHEN THE CALL BEGINS. Each datum BY PROGRAM (the guide's laid-datum.mjs) off the statement by which the dump's own 'gosem.cut.vars' lays the variable. In a bare row this is a premise. The card (YtopncohhagebbaaGreatDoorCards.lean) ties it to the program's text. -/
def laid_stile_grammar_errWrong {H : Type} : DataW H := .iface "*errors.errorString" (.ptr (.agg [.lit (.string [97, 32, 116, 111, 107, 101, 110, 32, 116, 104, 97, 116, 32, 99, 97, 110, 39, 116, 32, 115, 116, 97, 110, 100, 32, 104, 101, 114, 101])]))
def laid_stile_grammar_errDeep {H : Type} : DataW H := .iface "*errors.errorString" (.ptr (.agg [.lit (.string [97, 32, 98, 114, 97, 99, 107, 101, 116, 32, 119, 105, 116, 104, 105, 110, 32, 116, 111, 111, 32, 109, 97, 110, 121])]))

/-- 'stilelaw09.LintStrata': WHATEVER THE INPUT: true; the input reads as it did. -/
def lintStrataSpec : ChangeSpec := { name := "lintStrata", fn := fun _ => fun
  | [d] => { results := [.lit (.bool true)], args := [d] }
  | _ => none }
def lintStrataRow : OpenClaim := { program := "ytopncohhagebbaagreatdoor", sum := "608820ccf31429f987f7b3dc4f8a8274a833a8b58012b607309b03a915d035a1", func := "stile/stilelaw09.LintStrata", spec := "lintStrata", inPlace := ["internal/reflectlite.TypeOf"], unfollowed := true, recurses := true, named := ["stile/grammar.errWrong", "stile/grammar.errDeep"], loops := true, plainKeys := false, apart := false, laid := [("stile/grammar.errWrong", laid_stile_grammar_errWrong), ("stile/grammar.errDeep", laid_stile_grammar_errDeep)] }
def LintStrataSaid : Prop := lintStrataRow.holds Tryz.pinned (OpenSpec.ofChange lintStrataSpec)

/-- ITS FALSE NEIGHBOUR: 'it returns false'. Refute it at one input. -/
def lintStrataWrong : ChangeSpec := { name := "lintStrata", fn := fun _ => fun
  | [d] => { results := [.lit (.bool false)], args := [d] }
  | _ => none }
def LintStrataWrongFalsely : Prop := lintStrataRow.holds Tryz.pinned (OpenSpec.ofChange lintStrataWrong)

/-- 'stilelaw09.LintLess': WHATEVER THE INPUT: true; the input reads as it did. -/
def lintLessSpec : ChangeSpec := { name := "lintLess", fn := fun _ => fun
  | [d] => { results := [.lit (.bool true)], args := [d] }
  | _ => none }
def lintLessRow : OpenClaim := { program := "ytopncohhagebbaagreatdoor", sum := "608820ccf31429f987f7b3dc4f8a8274a833a8b58012b607309b03a915d035a1", func := "stile/stilelaw09.LintLess", spec := "lintLess", inPlace := ["internal/reflectlite.TypeOf"], unfollowed := true, recurses := true, named := ["stile/grammar.errWrong", "stile/grammar.errDeep"], plainKeys := false, apart := false, laid := [("stile/grammar.errWrong", laid_stile_grammar_errWrong), ("stile/grammar.errDeep", laid_stile_grammar_errDeep)] }
def LintLessSaid : Prop := lintLessRow.holds Tryz.pinned (OpenSpec.ofChange lintLessSpec)

/-- ITS FALSE NEIGHBOUR: 'it returns false'. Refute it at one input. -/
def lintLessWrong : ChangeSpec := { name := "lintLess", fn := fun _ => fun
  | [d] => { results := [.lit (.bool false)], args := [d] }
  | _ => none }
def LintLessWrongFalsely : Prop := lintLessRow.holds Tryz.pinned (OpenSpec.ofChange lintLessWrong)

/-- 'stilelaw09.LintMore': WHATEVER THE INPUT: true; the input reads as it did. -/
def lintMoreSpec : ChangeSpec := { name := "lintMore", fn := fun _ => fun
  | [d1, d2] => { results := [.lit (.bool true)], args := [d1, d2] }
  | _ => none }
def lintMoreRow : OpenClaim := { program := "ytopncohhagebbaagreatdoor", sum := "608820ccf31429f987f7b3dc4f8a8274a833a8b58012b607309b03a915d035a1", func := "stile/stilelaw09.LintMore", spec := "lintMore", inPlace := ["internal/reflectlite.TypeOf"], unfollowed := true, recurses := true, named := ["stile/grammar.errWrong", "stile/grammar.errDeep"], loops := true, plainKeys := false, apart := false, laid := [("stile/grammar.errWrong", laid_stile_grammar_errWrong), ("stile/grammar.errDeep", laid_stile_grammar_errDeep)] }
def LintMoreSaid : Prop := lintMoreRow.holds Tryz.pinned (OpenSpec.ofChange lintMoreSpec)

/-- ITS FALSE NEIGHBOUR: 'it returns false'. Refute it at one input. -/
def lintMoreWrong : ChangeSpec := { name := "lintMore", fn := fun _ => fun
  | [d1, d2] => { results := [.lit (.bool false)], args := [d1, d2] }
  | _ => none }
def LintMoreWrongFalsely : Prop := lintMoreRow.holds Tryz.pinned (OpenSpec.ofChange lintMoreWrong)

/-- 'stilelaw11.LotFits': WHATEVER THE INPUT: true; the input reads as it did. -/
def lotFitsSpec : ChangeSpec := { name := "lotFits", fn := fun _ => fun
  | [d1, d2] => { results := [.lit (.bool true)], args := [d1, d2] }
  | _ => none }
def lotFitsRow : OpenClaim := { program := "ytopncohhagebbaagreatdoor", sum := "608820ccf31429f987f7b3dc4f8a8274a833a8b58012b607309b03a915d035a1", func := "stile/stilelaw11.LotFits", spec := "lotFits", inPlace := ["internal/reflectlite.TypeOf", "internal/bytealg.IndexByteString", "internal/bytealg.IndexString"], unfollowed := true, recurses := true, named := ["stile/grammar.errWrong", "stile/grammar.errDeep", "internal/bytealg.MaxLen"], loops := true, plainKeys := false, apart := false, laid := [("stile/grammar.errWrong", laid_stile_grammar_errWrong), ("stile/grammar.errDeep", laid_stile_grammar_errDeep)] }
def LotFitsSaid : Prop := lotFitsRow.holds Tryz.pinned (OpenSpec.ofChange lotFitsSpec)

/-- ITS FALSE NEIGHBOUR: 'it returns false'. Refute it at one input. -/
def lotFitsWrong : ChangeSpec := { name := "lotFits", fn := fun _ => fun
  | [d1, d2] => { results := [.lit (.bool false)], args := [d1, d2] }
  | _ => none }
def LotFitsWrongFalsely : Prop := lotFitsRow.holds Tryz.pinned (OpenSpec.ofChange lotFitsWrong)

/-- 'stilelaw11.LotKnows': WHATEVER THE INPUT: true; the input reads as it did. -/
def lotKnowsSpec : ChangeSpec := { name := "lotKnows", fn := fun _ => fun
  | [d1, d2] => { results := [.lit (.bool true)], args := [d1, d2] }
  | _ => none }
def lotKnowsRow : OpenClaim := { program := "ytopncohhagebbaagreatdoor", sum := "608820ccf31429f987f7b3dc4f8a8274a833a8b58012b607309b03a915d035a1", func := "stile/stilelaw11.LotKnows", spec := "lotKnows", inPlace := ["internal/reflectlite.TypeOf", "internal/bytealg.IndexByteString", "internal/bytealg.IndexString"], unfollowed := true, recurses := true, named := ["stile/grammar.errWrong", "stile/grammar.errDeep", "internal/bytealg.MaxLen"], loops := true, plainKeys := false, apart := false, laid := [("stile/grammar.errWrong", laid_stile_grammar_errWrong), ("stile/grammar.errDeep", laid_stile_grammar_errDeep)] }
def LotKnowsSaid : Prop := lotKnowsRow.holds Tryz.pinned (OpenSpec.ofChange lotKnowsSpec)

/-- ITS FALSE NEIGHBOUR: 'it returns false'. Refute it at one input. -/
def lotKnowsWrong : ChangeSpec := { name := "lotKnows", fn := fun _ => fun
  | [d1, d2] => { results := [.lit (.bool false)], args := [d1, d2] }
  | _ => none }
def LotKnowsWrongFalsely : Prop := lotKnowsRow.holds Tryz.pinned (OpenSpec.ofChange lotKnowsWrong)

/-- 'stilelaw11.LotKnown': WHATEVER THE INPUT: true; the input reads as it did. -/
def lotKnownSpec : ChangeSpec := { name := "lotKnown", fn := fun _ => fun
  | [d1, d2, d3] => { results := [.lit (.bool true)], args := [d1, d2, d3] }
  | _ => none }
def lotKnownRow : OpenClaim := { program := "ytopncohhagebbaagreatdoor", sum := "608820ccf31429f987f7b3dc4f8a8274a833a8b58012b607309b03a915d035a1", func := "stile/stilelaw11.LotKnown", spec := "lotKnown", inPlace := ["internal/reflectlite.TypeOf", "internal/bytealg.IndexByteString", "internal/bytealg.IndexString"], unfollowed := true, recurses := true, named := ["stile/grammar.errWrong", "stile/grammar.errDeep", "internal/bytealg.MaxLen"], loops := true, plainKeys := false, apart := false, laid := [("stile/grammar.errWrong", laid_stile_grammar_errWrong), ("stile/grammar.errDeep", laid_stile_grammar_errDeep)] }
def LotKnownSaid : Prop := lotKnownRow.holds Tryz.pinned (OpenSpec.ofChange lotKnownSpec)

/-- ITS FALSE NEIGHBOUR: 'it returns false'. Refute it at one input. -/
def lotKnownWrong : ChangeSpec := { name := "lotKnown", fn := fun _ => fun
  | [d1, d2, d3] => { results := [.lit (.bool false)], args := [d1, d2, d3] }
  | _ => none }
def LotKnownWrongFalsely : Prop := lotKnownRow.holds Tryz.pinned (OpenSpec.ofChange lotKnownWrong)

/- THE SECOND FORM. 'bulk': how many values and letters a reading holds, each counted each time it is reached (what is shared counts as often as it is met; a slice's spare places count too). A statement '..UptoSaid' is the law's where the arguments, and the package variables that the reading takes, are together of bulk at most 1048576: NARROWER than '..Said'. Prove '..Said' where nothing that the law and all that it calls make is longer than what came in: it says more and counts as full. Else prove '..UptoSaid'. A law counts once. -/
mutual
def uptoBulk {H : Type} : DataW H → Nat
  | .lit (.string bytes) => bytes.length + 1
  | .lit _ => 1
  | .nil => 1
  | .ptr d => uptoBulk d + 1
  | .slice elems spare => uptoBulkAll elems + uptoBulkAll spare + 1
  | .agg parts => uptoBulkAll parts + 1
  | .iface _ d => uptoBulk d + 1
  | .map entries => uptoBulkEntries entries + 1
  | .held _ => 1
def uptoBulkAll {H : Type} : List (DataW H) → Nat
  | [] => 0
  | d :: r => uptoBulk d + uptoBulkAll r
def uptoBulkEntries {H : Type} : List (Lit × DataW H) → Nat
  | [] => 0
  | x :: r => uptoBulkEntry x + uptoBulkEntries r
def uptoBulkEntry {H : Type} : Lit × DataW H → Nat
  | (.string bytes, d) => bytes.length + uptoBulk d + 1
  | (_, d) => uptoBulk d + 1
 end
def uptoSmall : (H : Type) → List (DataW H) → Bool := fun _ ds => decide (uptoBulkAll ds ≤ 1048576)
def OpenSpec.upto (s : _root_.Go.ChangeSpec) : _root_.Go.OpenSpec := { _root_.Go.OpenSpec.ofChange s with cond := some uptoSmall }

/-- 'stilelaw09.LintStrata', WHERE WHAT IT READS IS OF BULK AT MOST 1048576: true; the input reads as it did. -/
def lintStrataUptoRow : OpenClaim := { program := "ytopncohhagebbaagreatdoor", sum := "608820ccf31429f987f7b3dc4f8a8274a833a8b58012b607309b03a915d035a1", func := "stile/stilelaw09.LintStrata", spec := "lintStrata", inPlace := ["internal/reflectlite.TypeOf"], unfollowed := true, recurses := true, named := ["stile/grammar.errWrong", "stile/grammar.errDeep"], loops := true, plainKeys := false, apart := false, laid := [("stile/grammar.errWrong", laid_stile_grammar_errWrong), ("stile/grammar.errDeep", laid_stile_grammar_errDeep)], narrowed := true }
def LintStrataUptoSaid : Prop := lintStrataUptoRow.holds Tryz.pinned (OpenSpec.upto lintStrataSpec)

/-- 'stilelaw09.LintLess', WHERE WHAT IT READS IS OF BULK AT MOST 1048576: true; the input reads as it did. -/
def lintLessUptoRow : OpenClaim := { program := "ytopncohhagebbaagreatdoor", sum := "608820ccf31429f987f7b3dc4f8a8274a833a8b58012b607309b03a915d035a1", func := "stile/stilelaw09.LintLess", spec := "lintLess", inPlace := ["internal/reflectlite.TypeOf"], unfollowed := true, recurses := true, named := ["stile/grammar.errWrong", "stile/grammar.errDeep"], plainKeys := false, apart := false, laid := [("stile/grammar.errWrong", laid_stile_grammar_errWrong), ("stile/grammar.errDeep", laid_stile_grammar_errDeep)], narrowed := true }
def LintLessUptoSaid : Prop := lintLessUptoRow.holds Tryz.pinned (OpenSpec.upto lintLessSpec)

/-- 'stilelaw09.LintMore', WHERE WHAT IT READS IS OF BULK AT MOST 1048576: true; the input reads as it did. -/
def lintMoreUptoRow : OpenClaim := { program := "ytopncohhagebbaagreatdoor", sum := "608820ccf31429f987f7b3dc4f8a8274a833a8b58012b607309b03a915d035a1", func := "stile/stilelaw09.LintMore", spec := "lintMore", inPlace := ["internal/reflectlite.TypeOf"], unfollowed := true, recurses := true, named := ["stile/grammar.errWrong", "stile/grammar.errDeep"], loops := true, plainKeys := false, apart := false, laid := [("stile/grammar.errWrong", laid_stile_grammar_errWrong), ("stile/grammar.errDeep", laid_stile_grammar_errDeep)], narrowed := true }
def LintMoreUptoSaid : Prop := lintMoreUptoRow.holds Tryz.pinned (OpenSpec.upto lintMoreSpec)

/-- 'stilelaw11.LotFits', WHERE WHAT IT READS IS OF BULK AT MOST 1048576: true; the input reads as it did. -/
def lotFitsUptoRow : OpenClaim := { program := "ytopncohhagebbaagreatdoor", sum := "608820ccf31429f987f7b3dc4f8a8274a833a8b58012b607309b03a915d035a1", func := "stile/stilelaw11.LotFits", spec := "lotFits", inPlace := ["internal/reflectlite.TypeOf", "internal/bytealg.IndexByteString", "internal/bytealg.IndexString"], unfollowed := true, recurses := true, named := ["stile/grammar.errWrong", "stile/grammar.errDeep", "internal/bytealg.MaxLen"], loops := true, plainKeys := false, apart := false, laid := [("stile/grammar.errWrong", laid_stile_grammar_errWrong), ("stile/grammar.errDeep", laid_stile_grammar_errDeep)], narrowed := true }
def LotFitsUptoSaid : Prop := lotFitsUptoRow.holds Tryz.pinned (OpenSpec.upto lotFitsSpec)

/-- 'stilelaw11.LotKnows', WHERE WHAT IT READS IS OF BULK AT MOST 1048576: true; the input reads as it did. -/
def lotKnowsUptoRow : OpenClaim := { program := "ytopncohhagebbaagreatdoor", sum := "608820ccf31429f987f7b3dc4f8a8274a833a8b58012b607309b03a915d035a1", func := "stile/stilelaw11.LotKnows", spec := "lotKnows", inPlace := ["internal/reflectlite.TypeOf", "internal/bytealg.IndexByteString", "internal/bytealg.IndexString"], unfollowed := true, recurses := true, named := ["stile/grammar.errWrong", "stile/grammar.errDeep", "internal/bytealg.MaxLen"], loops := true, plainKeys := false, apart := false, laid := [("stile/grammar.errWrong", laid_stile_grammar_errWrong), ("stile/grammar.errDeep", laid_stile_grammar_errDeep)], narrowed := true }
def LotKnowsUptoSaid : Prop := lotKnowsUptoRow.holds Tryz.pinned (OpenSpec.upto lotKnowsSpec)

/-- 'stilelaw11.LotKnown', WHERE WHAT IT READS IS OF BULK AT MOST 1048576: true; the input reads as it did. -/
def lotKnownUptoRow : OpenClaim := { program := "ytopncohhagebbaagreatdoor", sum := "608820ccf31429f987f7b3dc4f8a8274a833a8b58012b607309b03a915d035a1", func := "stile/stilelaw11.LotKnown", spec := "lotKnown", inPlace := ["internal/reflectlite.TypeOf", "internal/bytealg.IndexByteString", "internal/bytealg.IndexString"], unfollowed := true, recurses := true, named := ["stile/grammar.errWrong", "stile/grammar.errDeep", "internal/bytealg.MaxLen"], loops := true, plainKeys := false, apart := false, laid := [("stile/grammar.errWrong", laid_stile_grammar_errWrong), ("stile/grammar.errDeep", laid_stile_grammar_errDeep)], narrowed := true }
def LotKnownUptoSaid : Prop := lotKnownUptoRow.holds Tryz.pinned (OpenSpec.upto lotKnownSpec)

end Rows
end Go.Proofs.YtopncohhagebbaaGreatDoor
