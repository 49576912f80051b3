/-
  DERIVED. GIVEN WITH THE SEED: THE CARDS: each row of YtopncohhagebbaaGreatDoorRows.lean that lists a variable, with what it lists TIED to the program's text (the seventh form; the later family's looks); each row that meets fmt, with fmt's text TOLD by the authors' own Lean function (tested against real Go, not proved from fmt's source: count such statements apart). THE CARD IS WHAT COUNTS. Prove the row's statement (the work); the ties are given (YtopncohhagebbaaGreatDoorTie.lean); close each card by the builder's one call (the guide's Derived/Test/ToyasCard.lean, 'card_holds'). Laid BY PROGRAM, IN A SANDBOX (cutbox-door.mjs). By AI agents, Wed Nov 11 2026. No macro, syntax, notation, axiom, sorry.
-/
import Derived.Test.YtopncohhagebbaaGreatDoorRows
import GoSem.ClaimSeven
namespace Go.Proofs.YtopncohhagebbaaGreatDoor
namespace Rows

/-- THE TIED CARD OF 'stilelaw09.LintStrata'. -/
def lintStrataCard : Claim7 := { stood := { row := lintStrataRow, standIns := [], harness := (true, "9f3df9d0394cac2750d836121a785eba15b7eb2afa48d5ae6f83ce99a32f8065"), looks := true }, kinds := [], alts := [], laidByText := true, laidKinds := [.sentinel, .sentinel], laidTests := true, laidLooks := .later }
def LintStrataCardSaid : Prop := Claim7.holds Tryz.pinned (.plain (OpenSpec.ofChange lintStrataSpec)) lintStrataCard

/-- THE TIED CARD OF 'stilelaw09.LintLess'. -/
def lintLessCard : Claim7 := { stood := { row := lintLessRow, standIns := [], harness := (true, "9f3df9d0394cac2750d836121a785eba15b7eb2afa48d5ae6f83ce99a32f8065"), looks := true }, kinds := [], alts := [], laidByText := true, laidKinds := [.sentinel, .sentinel], laidTests := true, laidLooks := .later }
def LintLessCardSaid : Prop := Claim7.holds Tryz.pinned (.plain (OpenSpec.ofChange lintLessSpec)) lintLessCard

/-- THE TIED CARD OF 'stilelaw09.LintMore'. -/
def lintMoreCard : Claim7 := { stood := { row := lintMoreRow, standIns := [], harness := (true, "9f3df9d0394cac2750d836121a785eba15b7eb2afa48d5ae6f83ce99a32f8065"), looks := true }, kinds := [], alts := [], laidByText := true, laidKinds := [.sentinel, .sentinel], laidTests := true, laidLooks := .later }
def LintMoreCardSaid : Prop := Claim7.holds Tryz.pinned (.plain (OpenSpec.ofChange lintMoreSpec)) lintMoreCard

/-- THE TIED CARD OF 'stilelaw11.LotFits'. -/
def lotFitsCard : Claim7 := { stood := { row := lotFitsRow, standIns := [], harness := (true, "9f3df9d0394cac2750d836121a785eba15b7eb2afa48d5ae6f83ce99a32f8065"), looks := true }, kinds := [], alts := [], laidByText := true, laidKinds := [.sentinel, .sentinel], laidTests := true, laidLooks := .later }
def LotFitsCardSaid : Prop := Claim7.holds Tryz.pinned (.plain (OpenSpec.ofChange lotFitsSpec)) lotFitsCard

/-- THE TIED CARD OF 'stilelaw11.LotKnows'. -/
def lotKnowsCard : Claim7 := { stood := { row := lotKnowsRow, standIns := [], harness := (true, "9f3df9d0394cac2750d836121a785eba15b7eb2afa48d5ae6f83ce99a32f8065"), looks := true }, kinds := [], alts := [], laidByText := true, laidKinds := [.sentinel, .sentinel], laidTests := true, laidLooks := .later }
def LotKnowsCardSaid : Prop := Claim7.holds Tryz.pinned (.plain (OpenSpec.ofChange lotKnowsSpec)) lotKnowsCard

/-- THE TIED CARD OF 'stilelaw11.LotKnown'. -/
def lotKnownCard : Claim7 := { stood := { row := lotKnownRow, standIns := [], harness := (true, "9f3df9d0394cac2750d836121a785eba15b7eb2afa48d5ae6f83ce99a32f8065"), looks := true }, kinds := [], alts := [], laidByText := true, laidKinds := [.sentinel, .sentinel], laidTests := true, laidLooks := .later }
def LotKnownCardSaid : Prop := Claim7.holds Tryz.pinned (.plain (OpenSpec.ofChange lotKnownSpec)) lotKnownCard

/-- THE SECOND FORM's CARD OF 'stilelaw09.LintStrata'. -/
def lintStrataUptoCard : Claim7 := { stood := { row := lintStrataUptoRow, standIns := [], harness := (true, "9f3df9d0394cac2750d836121a785eba15b7eb2afa48d5ae6f83ce99a32f8065"), looks := true }, kinds := [], alts := [], laidByText := true, laidKinds := [.sentinel, .sentinel], laidTests := true, laidLooks := .later }
def LintStrataUptoCardSaid : Prop := Claim7.holds Tryz.pinned (.plain (OpenSpec.upto lintStrataSpec)) lintStrataUptoCard

/-- THE SECOND FORM's CARD OF 'stilelaw09.LintLess'. -/
def lintLessUptoCard : Claim7 := { stood := { row := lintLessUptoRow, standIns := [], harness := (true, "9f3df9d0394cac2750d836121a785eba15b7eb2afa48d5ae6f83ce99a32f8065"), looks := true }, kinds := [], alts := [], laidByText := true, laidKinds := [.sentinel, .sentinel], laidTests := true, laidLooks := .later }
def LintLessUptoCardSaid : Prop := Claim7.holds Tryz.pinned (.plain (OpenSpec.upto lintLessSpec)) lintLessUptoCard

/-- THE SECOND FORM's CARD OF 'stilelaw09.LintMore'. -/
def lintMoreUptoCard : Claim7 := { stood := { row := lintMoreUptoRow, standIns := [], harness := (true, "9f3df9d0394cac2750d836121a785eba15b7eb2afa48d5ae6f83ce99a32f8065"), looks := true }, kinds := [], alts := [], laidByText := true, laidKinds := [.sentinel, .sentinel], laidTests := true, laidLooks := .later }
def LintMoreUptoCardSaid : Prop := Claim7.holds Tryz.pinned (.plain (OpenSpec.upto lintMoreSpec)) lintMoreUptoCard

/-- THE SECOND FORM's CARD OF 'stilelaw11.LotFits'. -/
def lotFitsUptoCard : Claim7 := { stood := { row := lotFitsUptoRow, standIns := [], harness := (true, "9f3df9d0394cac2750d836121a785eba15b7eb2afa48d5ae6f83ce99a32f8065"), looks := true }, kinds := [], alts := [], laidByText := true, laidKinds := [.sentinel, .sentinel], laidTests := true, laidLooks := .later }
def LotFitsUptoCardSaid : Prop := Claim7.holds Tryz.pinned (.plain (OpenSpec.upto lotFitsSpec)) lotFitsUptoCard

/-- THE SECOND FORM's CARD OF 'stilelaw11.LotKnows'. -/
def lotKnowsUptoCard : Claim7 := { stood := { row := lotKnowsUptoRow, standIns := [], harness := (true, "9f3df9d0394cac2750d836121a785eba15b7eb2afa48d5ae6f83ce99a32f8065"), looks := true }, kinds := [], alts := [], laidByText := true, laidKinds := [.sentinel, .sentinel], laidTests := true, laidLooks := .later }
def LotKnowsUptoCardSaid : Prop := Claim7.holds Tryz.pinned (.plain (OpenSpec.upto lotKnowsSpec)) lotKnowsUptoCard

/-- THE SECOND FORM's CARD OF 'stilelaw11.LotKnown'. -/
def lotKnownUptoCard : Claim7 := { stood := { row := lotKnownUptoRow, standIns := [], harness := (true, "9f3df9d0394cac2750d836121a785eba15b7eb2afa48d5ae6f83ce99a32f8065"), looks := true }, kinds := [], alts := [], laidByText := true, laidKinds := [.sentinel, .sentinel], laidTests := true, laidLooks := .later }
def LotKnownUptoCardSaid : Prop := Claim7.holds Tryz.pinned (.plain (OpenSpec.upto lotKnownSpec)) lotKnownUptoCard
end Rows
end Go.Proofs.YtopncohhagebbaaGreatDoor
