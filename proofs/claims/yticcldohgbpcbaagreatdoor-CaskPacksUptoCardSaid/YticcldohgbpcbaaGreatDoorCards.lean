/-
  DERIVED. GIVEN WITH THE SEED: THE CARDS: each row of YticcldohgbpcbaaGreatDoorRows.lean that lists a variable, with what it lists TIED to the program's text (the seventh form; the later family's looks); each row that meets fmt, with fmt's text TOLD by the authors' own Lean function (tested against real Go, not proved from fmt's source: count such statements apart). THE CARD IS WHAT COUNTS. Prove the row's statement (the work); the ties are given (YticcldohgbpcbaaGreatDoorTie.lean); close each card by the builder's one call (the guide's Derived/Test/ToyasCard.lean, 'card_holds'). Laid BY PROGRAM, IN A SANDBOX (cutbox-door.mjs). By AI agents, Wed Nov 11 2026. No macro, syntax, notation, axiom, sorry.
-/
import Derived.Test.YticcldohgbpcbaaGreatDoorRows
import GoSem.ClaimSeven
namespace Go.Proofs.YticcldohgbpcbaaGreatDoor
namespace Rows

/-- THE TIED CARD OF 'stilelaw09.LintChecks'. -/
def lintChecksCard : Claim7 := { stood := { row := lintChecksRow, standIns := [], harness := (true, "ae784974c1776962f72b4d89b5938dc5f81a6039c737e9f970023de1fd907d68"), looks := true }, kinds := [], alts := [], laidByText := true, laidKinds := [.sentinel, .sentinel], laidTests := true, laidLooks := .later }
def LintChecksCardSaid : Prop := Claim7.holds Tryz.pinned (.plain (OpenSpec.ofChange lintChecksSpec)) lintChecksCard

/-- THE TIED CARD OF 'stilelaw09.LintStrata'. -/
def lintStrataCard : Claim7 := { stood := { row := lintStrataRow, standIns := [], harness := (true, "ae784974c1776962f72b4d89b5938dc5f81a6039c737e9f970023de1fd907d68"), looks := true }, kinds := [], alts := [], laidByText := true, laidKinds := [.sentinel, .sentinel], laidTests := true, laidLooks := .later }
def LintStrataCardSaid : Prop := Claim7.holds Tryz.pinned (.plain (OpenSpec.ofChange lintStrataSpec)) lintStrataCard

/-- THE TIED CARD OF 'stilelaw09.LintLess'. -/
def lintLessCard : Claim7 := { stood := { row := lintLessRow, standIns := [], harness := (true, "ae784974c1776962f72b4d89b5938dc5f81a6039c737e9f970023de1fd907d68"), looks := true }, kinds := [], alts := [], laidByText := true, laidKinds := [.sentinel, .sentinel], laidTests := true, laidLooks := .later }
def LintLessCardSaid : Prop := Claim7.holds Tryz.pinned (.plain (OpenSpec.ofChange lintLessSpec)) lintLessCard

/-- THE TIED CARD OF 'stilelaw09.LintMore'. -/
def lintMoreCard : Claim7 := { stood := { row := lintMoreRow, standIns := [], harness := (true, "ae784974c1776962f72b4d89b5938dc5f81a6039c737e9f970023de1fd907d68"), looks := true }, kinds := [], alts := [], laidByText := true, laidKinds := [.sentinel, .sentinel], laidTests := true, laidLooks := .later }
def LintMoreCardSaid : Prop := Claim7.holds Tryz.pinned (.plain (OpenSpec.ofChange lintMoreSpec)) lintMoreCard

/-- THE TIED CARD OF 'stilelaw10.CaskPacks'. -/
def caskPacksCard : Claim7 := { stood := { row := caskPacksRow, standIns := [], harness := (true, "ae784974c1776962f72b4d89b5938dc5f81a6039c737e9f970023de1fd907d68"), looks := true }, kinds := [], alts := [], laidByText := true, laidKinds := [.data, .data, .data], laidTests := true, laidLooks := .later }
def CaskPacksCardSaid : Prop := Claim7.holds Tryz.pinned (.plain (OpenSpec.ofChange caskPacksSpec)) caskPacksCard

/-- THE SECOND FORM's CARD OF 'stilelaw09.LintChecks'. -/
def lintChecksUptoCard : Claim7 := { stood := { row := lintChecksUptoRow, standIns := [], harness := (true, "ae784974c1776962f72b4d89b5938dc5f81a6039c737e9f970023de1fd907d68"), looks := true }, kinds := [], alts := [], laidByText := true, laidKinds := [.sentinel, .sentinel], laidTests := true, laidLooks := .later }
def LintChecksUptoCardSaid : Prop := Claim7.holds Tryz.pinned (.plain (OpenSpec.upto lintChecksSpec)) lintChecksUptoCard

/-- THE SECOND FORM's CARD OF 'stilelaw09.LintStrata'. -/
def lintStrataUptoCard : Claim7 := { stood := { row := lintStrataUptoRow, standIns := [], harness := (true, "ae784974c1776962f72b4d89b5938dc5f81a6039c737e9f970023de1fd907d68"), looks := true }, kinds := [], alts := [], laidByText := true, laidKinds := [.sentinel, .sentinel], laidTests := true, laidLooks := .later }
def LintStrataUptoCardSaid : Prop := Claim7.holds Tryz.pinned (.plain (OpenSpec.upto lintStrataSpec)) lintStrataUptoCard

/-- THE SECOND FORM's CARD OF 'stilelaw09.LintLess'. -/
def lintLessUptoCard : Claim7 := { stood := { row := lintLessUptoRow, standIns := [], harness := (true, "ae784974c1776962f72b4d89b5938dc5f81a6039c737e9f970023de1fd907d68"), looks := true }, kinds := [], alts := [], laidByText := true, laidKinds := [.sentinel, .sentinel], laidTests := true, laidLooks := .later }
def LintLessUptoCardSaid : Prop := Claim7.holds Tryz.pinned (.plain (OpenSpec.upto lintLessSpec)) lintLessUptoCard

/-- THE SECOND FORM's CARD OF 'stilelaw09.LintMore'. -/
def lintMoreUptoCard : Claim7 := { stood := { row := lintMoreUptoRow, standIns := [], harness := (true, "ae784974c1776962f72b4d89b5938dc5f81a6039c737e9f970023de1fd907d68"), looks := true }, kinds := [], alts := [], laidByText := true, laidKinds := [.sentinel, .sentinel], laidTests := true, laidLooks := .later }
def LintMoreUptoCardSaid : Prop := Claim7.holds Tryz.pinned (.plain (OpenSpec.upto lintMoreSpec)) lintMoreUptoCard

/-- THE SECOND FORM's CARD OF 'stilelaw10.CaskPacks'. -/
def caskPacksUptoCard : Claim7 := { stood := { row := caskPacksUptoRow, standIns := [], harness := (true, "ae784974c1776962f72b4d89b5938dc5f81a6039c737e9f970023de1fd907d68"), looks := true }, kinds := [], alts := [], laidByText := true, laidKinds := [.data, .data, .data], laidTests := true, laidLooks := .later }
def CaskPacksUptoCardSaid : Prop := Claim7.holds Tryz.pinned (.plain (OpenSpec.upto caskPacksSpec)) caskPacksUptoCard
end Rows
end Go.Proofs.YticcldohgbpcbaaGreatDoor
