/-
  NARROWER THAN 'FOR EVERY INPUT', by the rows' own cells (each row's printed sentence says how): LintChecks: loops, laid · LintStrata: loops, laid · LintLess: laid · LintMore: loops, laid · CaskPacks: loops, laid.
  DERIVED. THE GIVEN ROWS OF THIS SEAT. 5 by the template 'for every input the law returns true; each argument reads behind the call as it read before'; 0 by the template 'total and deterministic' (their statements: YticcldohgbpcbaaGreatDoorTotals.lean).
  GIVEN WITH THE SEED: the statements are not yours to turn. If you find one false, say at which input.
  Laid BY PROGRAM, IN A SANDBOX (cutbox-rows.mjs): the forced cells as the released guide's own fill.sh prints them over the translation e8fa031916be6d13… (all of the seat's roots in one cut). By AI agents, Wed Nov 11 2026. No macro, syntax, notation, axiom, sorry.
-/
import Derived.Test.YticcldohgbpcbaaGreatDoorChecked
import GoSem.Claim
import GoSem.ClaimJoined
import GoSem.ClaimMapViews
import Derived.JoinedTies
import Derived.KernelRfl
namespace Go.Proofs.YticcldohgbpcbaaGreatDoor
/- THE CELL 'sum', in the pinned program and in every row, IS THE sha256 OF THE DUMP (.gsa) THAT YticcldohgbpcbaaGreatDoorProg.lean LOADS. Nothing in Lean hashes anything: it is a label: what it is worth is what the hold of that sum in a sandbox is worth. -/
noncomputable def Tryz.pinned : Pinned := { name := "yticcldohgbpcbaagreatdoor", sum := "e8fa031916be6d134f86f08274c1e9ccdda5c5a20a44963d867565ead8a95eb7", checked := Tryz.checked }
namespace Rows
def none {H : Type} : Left H := { results := [], args := [] }

/- WHAT THE LISTED PACKAGE-LEVEL VARIABLES READ AS WHEN THE CALL BEGINS. Each datum BY PROGRAM (the guide's laid-datum.mjs) off the statement by which the dump's own 'gosem.cut.vars' lays the variable. In a bare row this is a premise. The card (YticcldohgbpcbaaGreatDoorCards.lean) ties it to the program's text. -/
def laid_stile_grammar_errWrong {H : Type} : DataW H := .iface "*errors.errorString" (.ptr (.agg [.lit (.string [97, 32, 116, 111, 107, 101, 110, 32, 116, 104, 97, 116, 32, 99, 97, 110, 39, 116, 32, 115, 116, 97, 110, 100, 32, 104, 101, 114, 101])]))
def laid_stile_grammar_errDeep {H : Type} : DataW H := .iface "*errors.errorString" (.ptr (.agg [.lit (.string [97, 32, 98, 114, 97, 99, 107, 101, 116, 32, 119, 105, 116, 104, 105, 110, 32, 116, 111, 111, 32, 109, 97, 110, 121])]))
def laid_math_bits_deBruijn32tab {H : Type} : DataW H := .agg [.lit (.int .u8 0), .lit (.int .u8 1), .lit (.int .u8 28), .lit (.int .u8 2), .lit (.int .u8 29), .lit (.int .u8 14), .lit (.int .u8 24), .lit (.int .u8 3), .lit (.int .u8 30), .lit (.int .u8 22), .lit (.int .u8 20), .lit (.int .u8 15), .lit (.int .u8 25), .lit (.int .u8 17), .lit (.int .u8 4), .lit (.int .u8 8), .lit (.int .u8 31), .lit (.int .u8 27), .lit (.int .u8 13), .lit (.int .u8 23), .lit (.int .u8 21), .lit (.int .u8 19), .lit (.int .u8 16), .lit (.int .u8 7), .lit (.int .u8 26), .lit (.int .u8 12), .lit (.int .u8 18), .lit (.int .u8 6), .lit (.int .u8 11), .lit (.int .u8 5), .lit (.int .u8 10), .lit (.int .u8 9)]
def laid_math_bits_deBruijn64tab {H : Type} : DataW H := .agg [.lit (.int .u8 0), .lit (.int .u8 1), .lit (.int .u8 56), .lit (.int .u8 2), .lit (.int .u8 57), .lit (.int .u8 49), .lit (.int .u8 28), .lit (.int .u8 3), .lit (.int .u8 61), .lit (.int .u8 58), .lit (.int .u8 42), .lit (.int .u8 50), .lit (.int .u8 38), .lit (.int .u8 29), .lit (.int .u8 17), .lit (.int .u8 4), .lit (.int .u8 62), .lit (.int .u8 47), .lit (.int .u8 59), .lit (.int .u8 36), .lit (.int .u8 45), .lit (.int .u8 43), .lit (.int .u8 51), .lit (.int .u8 22), .lit (.int .u8 53), .lit (.int .u8 39), .lit (.int .u8 33), .lit (.int .u8 30), .lit (.int .u8 24), .lit (.int .u8 18), .lit (.int .u8 12), .lit (.int .u8 5), .lit (.int .u8 63), .lit (.int .u8 55), .lit (.int .u8 48), .lit (.int .u8 27), .lit (.int .u8 60), .lit (.int .u8 41), .lit (.int .u8 37), .lit (.int .u8 16), .lit (.int .u8 46), .lit (.int .u8 35), .lit (.int .u8 44), .lit (.int .u8 21), .lit (.int .u8 52), .lit (.int .u8 32), .lit (.int .u8 23), .lit (.int .u8 11), .lit (.int .u8 54), .lit (.int .u8 26), .lit (.int .u8 40), .lit (.int .u8 15), .lit (.int .u8 34), .lit (.int .u8 20), .lit (.int .u8 31), .lit (.int .u8 10), .lit (.int .u8 25), .lit (.int .u8 14), .lit (.int .u8 19), .lit (.int .u8 9), .lit (.int .u8 13), .lit (.int .u8 8), .lit (.int .u8 7), .lit (.int .u8 6)]
def laid_internal_strconv_uint64pow10 {H : Type} : DataW H := .agg [.lit (.int .u64 1), .lit (.int .u64 10), .lit (.int .u64 100), .lit (.int .u64 1000), .lit (.int .u64 10000), .lit (.int .u64 100000), .lit (.int .u64 1000000), .lit (.int .u64 10000000), .lit (.int .u64 100000000), .lit (.int .u64 1000000000), .lit (.int .u64 10000000000), .lit (.int .u64 100000000000), .lit (.int .u64 1000000000000), .lit (.int .u64 10000000000000), .lit (.int .u64 100000000000000), .lit (.int .u64 1000000000000000), .lit (.int .u64 10000000000000000), .lit (.int .u64 100000000000000000), .lit (.int .u64 1000000000000000000), .lit (.int .u64 10000000000000000000)]

/-- 'stilelaw09.LintChecks': WHATEVER THE INPUT: true; the input reads as it did. -/
def lintChecksSpec : ChangeSpec := { name := "lintChecks", fn := fun _ => fun
  | [d] => { results := [.lit (.bool true)], args := [d] }
  | _ => none }
def lintChecksRow : OpenClaim := { program := "yticcldohgbpcbaagreatdoor", sum := "e8fa031916be6d134f86f08274c1e9ccdda5c5a20a44963d867565ead8a95eb7", func := "stile/stilelaw09.LintChecks", spec := "lintChecks", inPlace := ["internal/reflectlite.TypeOf"], unfollowed := true, recurses := true, named := ["stile/grammar.errWrong", "stile/grammar.errDeep"], loops := true, plainKeys := false, apart := false, laid := [("stile/grammar.errWrong", laid_stile_grammar_errWrong), ("stile/grammar.errDeep", laid_stile_grammar_errDeep)] }
def LintChecksSaid : Prop := lintChecksRow.holds Tryz.pinned (OpenSpec.ofChange lintChecksSpec)

/-- ITS FALSE NEIGHBOUR: 'it returns false'. Refute it at one input. -/
def lintChecksWrong : ChangeSpec := { name := "lintChecks", fn := fun _ => fun
  | [d] => { results := [.lit (.bool false)], args := [d] }
  | _ => none }
def LintChecksWrongFalsely : Prop := lintChecksRow.holds Tryz.pinned (OpenSpec.ofChange lintChecksWrong)

/-- 'stilelaw09.LintStrata': WHATEVER THE INPUT: true; the input reads as it did. -/
def lintStrataSpec : ChangeSpec := { name := "lintStrata", fn := fun _ => fun
  | [d] => { results := [.lit (.bool true)], args := [d] }
  | _ => none }
def lintStrataRow : OpenClaim := { program := "yticcldohgbpcbaagreatdoor", sum := "e8fa031916be6d134f86f08274c1e9ccdda5c5a20a44963d867565ead8a95eb7", func := "stile/stilelaw09.LintStrata", spec := "lintStrata", inPlace := ["internal/reflectlite.TypeOf"], unfollowed := true, recurses := true, named := ["stile/grammar.errWrong", "stile/grammar.errDeep"], loops := true, plainKeys := false, apart := false, laid := [("stile/grammar.errWrong", laid_stile_grammar_errWrong), ("stile/grammar.errDeep", laid_stile_grammar_errDeep)] }
def LintStrataSaid : Prop := lintStrataRow.holds Tryz.pinned (OpenSpec.ofChange lintStrataSpec)

/-- ITS FALSE NEIGHBOUR: 'it returns false'. Refute it at one input. -/
def lintStrataWrong : ChangeSpec := { name := "lintStrata", fn := fun _ => fun
  | [d] => { results := [.lit (.bool false)], args := [d] }
  | _ => none }
def LintStrataWrongFalsely : Prop := lintStrataRow.holds Tryz.pinned (OpenSpec.ofChange lintStrataWrong)

/-- 'stilelaw09.LintLess': WHATEVER THE INPUT: true; the input reads as it did. -/
def lintLessSpec : ChangeSpec := { name := "lintLess", fn := fun _ => fun
  | [d] => { results := [.lit (.bool true)], args := [d] }
  | _ => none }
def lintLessRow : OpenClaim := { program := "yticcldohgbpcbaagreatdoor", sum := "e8fa031916be6d134f86f08274c1e9ccdda5c5a20a44963d867565ead8a95eb7", func := "stile/stilelaw09.LintLess", spec := "lintLess", inPlace := ["internal/reflectlite.TypeOf"], unfollowed := true, recurses := true, named := ["stile/grammar.errWrong", "stile/grammar.errDeep"], plainKeys := false, apart := false, laid := [("stile/grammar.errWrong", laid_stile_grammar_errWrong), ("stile/grammar.errDeep", laid_stile_grammar_errDeep)] }
def LintLessSaid : Prop := lintLessRow.holds Tryz.pinned (OpenSpec.ofChange lintLessSpec)

/-- ITS FALSE NEIGHBOUR: 'it returns false'. Refute it at one input. -/
def lintLessWrong : ChangeSpec := { name := "lintLess", fn := fun _ => fun
  | [d] => { results := [.lit (.bool false)], args := [d] }
  | _ => none }
def LintLessWrongFalsely : Prop := lintLessRow.holds Tryz.pinned (OpenSpec.ofChange lintLessWrong)

/-- 'stilelaw09.LintMore': WHATEVER THE INPUT: true; the input reads as it did. -/
def lintMoreSpec : ChangeSpec := { name := "lintMore", fn := fun _ => fun
  | [d1, d2] => { results := [.lit (.bool true)], args := [d1, d2] }
  | _ => none }
def lintMoreRow : OpenClaim := { program := "yticcldohgbpcbaagreatdoor", sum := "e8fa031916be6d134f86f08274c1e9ccdda5c5a20a44963d867565ead8a95eb7", func := "stile/stilelaw09.LintMore", spec := "lintMore", inPlace := ["internal/reflectlite.TypeOf"], unfollowed := true, recurses := true, named := ["stile/grammar.errWrong", "stile/grammar.errDeep"], loops := true, plainKeys := false, apart := false, laid := [("stile/grammar.errWrong", laid_stile_grammar_errWrong), ("stile/grammar.errDeep", laid_stile_grammar_errDeep)] }
def LintMoreSaid : Prop := lintMoreRow.holds Tryz.pinned (OpenSpec.ofChange lintMoreSpec)

/-- ITS FALSE NEIGHBOUR: 'it returns false'. Refute it at one input. -/
def lintMoreWrong : ChangeSpec := { name := "lintMore", fn := fun _ => fun
  | [d1, d2] => { results := [.lit (.bool false)], args := [d1, d2] }
  | _ => none }
def LintMoreWrongFalsely : Prop := lintMoreRow.holds Tryz.pinned (OpenSpec.ofChange lintMoreWrong)

/-- 'stilelaw10.CaskPacks': WHATEVER THE INPUT: true; the input reads as it did. -/
def caskPacksSpec : ChangeSpec := { name := "caskPacks", fn := fun _ => fun
  | [d] => { results := [.lit (.bool true)], args := [d] }
  | _ => none }
def caskPacksRow : OpenClaim := { program := "yticcldohgbpcbaagreatdoor", sum := "e8fa031916be6d134f86f08274c1e9ccdda5c5a20a44963d867565ead8a95eb7", func := "stile/stilelaw10.CaskPacks", spec := "caskPacks", unfollowed := true, recurses := true, named := ["internal/strconv.uint64pow10", "math/bits.deBruijn32tab", "math/bits.deBruijn64tab"], loops := true, plainKeys := false, apart := false, laid := [("math/bits.deBruijn32tab", laid_math_bits_deBruijn32tab), ("math/bits.deBruijn64tab", laid_math_bits_deBruijn64tab), ("internal/strconv.uint64pow10", laid_internal_strconv_uint64pow10)] }
def CaskPacksSaid : Prop := caskPacksRow.holds Tryz.pinned (OpenSpec.ofChange caskPacksSpec)

/-- ITS FALSE NEIGHBOUR: 'it returns false'. Refute it at one input. -/
def caskPacksWrong : ChangeSpec := { name := "caskPacks", fn := fun _ => fun
  | [d] => { results := [.lit (.bool false)], args := [d] }
  | _ => none }
def CaskPacksWrongFalsely : Prop := caskPacksRow.holds Tryz.pinned (OpenSpec.ofChange caskPacksWrong)

/- THE SECOND FORM. 'bulk': how many values and letters a reading holds, each counted each time it is reached (what is shared counts as often as it is met; a slice's spare places count too). A statement '..UptoSaid' is the law's where the arguments, and the package variables that the reading takes, are together of bulk at most 1048576: NARROWER than '..Said'. Prove '..Said' where nothing that the law and all that it calls make is longer than what came in: it says more and counts as full. Else prove '..UptoSaid'. A law counts once. -/
mutual
def uptoBulk {H : Type} : DataW H → Nat
  | .lit (.string bytes) => bytes.length + 1
  | .lit _ => 1
  | .nil => 1
  | .ptr d => uptoBulk d + 1
  | .slice elems spare => uptoBulkAll elems + uptoBulkAll spare + 1
  | .agg parts => uptoBulkAll parts + 1
  | .iface _ d => uptoBulk d + 1
  | .map entries => uptoBulkEntries entries + 1
  | .held _ => 1
def uptoBulkAll {H : Type} : List (DataW H) → Nat
  | [] => 0
  | d :: r => uptoBulk d + uptoBulkAll r
def uptoBulkEntries {H : Type} : List (Lit × DataW H) → Nat
  | [] => 0
  | x :: r => uptoBulkEntry x + uptoBulkEntries r
def uptoBulkEntry {H : Type} : Lit × DataW H → Nat
  | (.string bytes, d) => bytes.length + uptoBulk d + 1
  | (_, d) => uptoBulk d + 1
 end
def uptoSmall : (H : Type) → List (DataW H) → Bool := fun _ ds => decide (uptoBulkAll ds ≤ 1048576)
def OpenSpec.upto (s : _root_.Go.ChangeSpec) : _root_.Go.OpenSpec := { _root_.Go.OpenSpec.ofChange s with cond := some uptoSmall }

/-- 'stilelaw09.LintChecks', WHERE WHAT IT READS IS OF BULK AT MOST 1048576: true; the input reads as it did. -/
def lintChecksUptoRow : OpenClaim := { program := "yticcldohgbpcbaagreatdoor", sum := "e8fa031916be6d134f86f08274c1e9ccdda5c5a20a44963d867565ead8a95eb7", func := "stile/stilelaw09.LintChecks", spec := "lintChecks", inPlace := ["internal/reflectlite.TypeOf"], unfollowed := true, recurses := true, named := ["stile/grammar.errWrong", "stile/grammar.errDeep"], loops := true, plainKeys := false, apart := false, laid := [("stile/grammar.errWrong", laid_stile_grammar_errWrong), ("stile/grammar.errDeep", laid_stile_grammar_errDeep)], narrowed := true }
def LintChecksUptoSaid : Prop := lintChecksUptoRow.holds Tryz.pinned (OpenSpec.upto lintChecksSpec)

/-- 'stilelaw09.LintStrata', WHERE WHAT IT READS IS OF BULK AT MOST 1048576: true; the input reads as it did. -/
def lintStrataUptoRow : OpenClaim := { program := "yticcldohgbpcbaagreatdoor", sum := "e8fa031916be6d134f86f08274c1e9ccdda5c5a20a44963d867565ead8a95eb7", func := "stile/stilelaw09.LintStrata", spec := "lintStrata", inPlace := ["internal/reflectlite.TypeOf"], unfollowed := true, recurses := true, named := ["stile/grammar.errWrong", "stile/grammar.errDeep"], loops := true, plainKeys := false, apart := false, laid := [("stile/grammar.errWrong", laid_stile_grammar_errWrong), ("stile/grammar.errDeep", laid_stile_grammar_errDeep)], narrowed := true }
def LintStrataUptoSaid : Prop := lintStrataUptoRow.holds Tryz.pinned (OpenSpec.upto lintStrataSpec)

/-- 'stilelaw09.LintLess', WHERE WHAT IT READS IS OF BULK AT MOST 1048576: true; the input reads as it did. -/
def lintLessUptoRow : OpenClaim := { program := "yticcldohgbpcbaagreatdoor", sum := "e8fa031916be6d134f86f08274c1e9ccdda5c5a20a44963d867565ead8a95eb7", func := "stile/stilelaw09.LintLess", spec := "lintLess", inPlace := ["internal/reflectlite.TypeOf"], unfollowed := true, recurses := true, named := ["stile/grammar.errWrong", "stile/grammar.errDeep"], plainKeys := false, apart := false, laid := [("stile/grammar.errWrong", laid_stile_grammar_errWrong), ("stile/grammar.errDeep", laid_stile_grammar_errDeep)], narrowed := true }
def LintLessUptoSaid : Prop := lintLessUptoRow.holds Tryz.pinned (OpenSpec.upto lintLessSpec)

/-- 'stilelaw09.LintMore', WHERE WHAT IT READS IS OF BULK AT MOST 1048576: true; the input reads as it did. -/
def lintMoreUptoRow : OpenClaim := { program := "yticcldohgbpcbaagreatdoor", sum := "e8fa031916be6d134f86f08274c1e9ccdda5c5a20a44963d867565ead8a95eb7", func := "stile/stilelaw09.LintMore", spec := "lintMore", inPlace := ["internal/reflectlite.TypeOf"], unfollowed := true, recurses := true, named := ["stile/grammar.errWrong", "stile/grammar.errDeep"], loops := true, plainKeys := false, apart := false, laid := [("stile/grammar.errWrong", laid_stile_grammar_errWrong), ("stile/grammar.errDeep", laid_stile_grammar_errDeep)], narrowed := true }
def LintMoreUptoSaid : Prop := lintMoreUptoRow.holds Tryz.pinned (OpenSpec.upto lintMoreSpec)

/-- 'stilelaw10.CaskPacks', WHERE WHAT IT READS IS OF BULK AT MOST 1048576: true; the input reads as it did. -/
def caskPacksUptoRow : OpenClaim := { program := "yticcldohgbpcbaagreatdoor", sum := "e8fa031916be6d134f86f08274c1e9ccdda5c5a20a44963d867565ead8a95eb7", func := "stile/stilelaw10.CaskPacks", spec := "caskPacks", unfollowed := true, recurses := true, named := ["internal/strconv.uint64pow10", "math/bits.deBruijn32tab", "math/bits.deBruijn64tab"], loops := true, plainKeys := false, apart := false, laid := [("math/bits.deBruijn32tab", laid_math_bits_deBruijn32tab), ("math/bits.deBruijn64tab", laid_math_bits_deBruijn64tab), ("internal/strconv.uint64pow10", laid_internal_strconv_uint64pow10)], narrowed := true }
def CaskPacksUptoSaid : Prop := caskPacksUptoRow.holds Tryz.pinned (OpenSpec.upto caskPacksSpec)

end Rows
end Go.Proofs.YticcldohgbpcbaaGreatDoor
