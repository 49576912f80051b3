/-
  DERIVED. GIVEN WITH THE SEED: THE CARDS: each row of YtbphmaoomnocmaaDoorRows.lean that lists a variable, with what it lists TIED to the program's text (the seventh form; the later family's looks); each row that meets fmt, with fmt's text TOLD by the authors' own Lean function (tested against real Go, not proved from fmt's source: count such statements apart). THE CARD IS WHAT COUNTS. Prove the row's statement (the work); the ties are given (YtbphmaoomnocmaaDoorTie.lean); close each card by the builder's one call (the guide's Derived/Test/ToyasCard.lean, 'card_holds'). Laid BY PROGRAM, IN A SANDBOX (cutbox-door.mjs). By AI agents, Wed Nov 11 2026. No macro, syntax, notation, axiom, sorry.
-/
import Derived.Test.YtbphmaoomnocmaaDoorRows
import GoSem.ClaimSeven
namespace Go.Proofs.YtbphmaoomnocmaaDoor
namespace Rows

/-- THE TIED CARD OF 'stilelaw07.GrammarExprs'. -/
def grammarExprsCard : Claim7 := { stood := { row := grammarExprsRow, standIns := [], harness := (true, "46ac6082b57195e5f8aa8634dacfe582de17b765d37c29ee88d77f8928d07cd1"), looks := true }, kinds := [], alts := [], laidByText := true, laidKinds := [.sentinel, .sentinel], laidTests := true, laidLooks := .later }
def GrammarExprsCardSaid : Prop := Claim7.holds Tryd.pinned (.plain (OpenSpec.ofChange grammarExprsSpec)) grammarExprsCard

/-- THE TIED CARD OF 'stilelaw07.GrammarParses'. -/
def grammarParsesCard : Claim7 := { stood := { row := grammarParsesRow, standIns := [], harness := (true, "46ac6082b57195e5f8aa8634dacfe582de17b765d37c29ee88d77f8928d07cd1"), looks := true }, kinds := [], alts := [], laidByText := true, laidKinds := [.sentinel, .sentinel], laidTests := true, laidLooks := .later }
def GrammarParsesCardSaid : Prop := Claim7.holds Tryd.pinned (.plain (OpenSpec.ofChange grammarParsesSpec)) grammarParsesCard

/-- THE TIED CARD OF 'stilelaw07.GrammarNests'. -/
def grammarNestsCard : Claim7 := { stood := { row := grammarNestsRow, standIns := [], harness := (true, "46ac6082b57195e5f8aa8634dacfe582de17b765d37c29ee88d77f8928d07cd1"), looks := true }, kinds := [], alts := [], laidByText := true, laidKinds := [.sentinel, .sentinel], laidTests := true, laidLooks := .later }
def GrammarNestsCardSaid : Prop := Claim7.holds Tryd.pinned (.plain (OpenSpec.ofChange grammarNestsSpec)) grammarNestsCard

/-- THE TIED CARD OF 'stilelaw07.GrammarJoins'. -/
def grammarJoinsCard : Claim7 := { stood := { row := grammarJoinsRow, standIns := [], harness := (true, "46ac6082b57195e5f8aa8634dacfe582de17b765d37c29ee88d77f8928d07cd1"), looks := true }, kinds := [], alts := [], laidByText := true, laidKinds := [.sentinel, .sentinel], laidTests := true, laidLooks := .later }
def GrammarJoinsCardSaid : Prop := Claim7.holds Tryd.pinned (.plain (OpenSpec.ofChange grammarJoinsSpec)) grammarJoinsCard

/-- THE TIED CARD OF 'stilelaw07.GrammarJoint'. -/
def grammarJointCard : Claim7 := { stood := { row := grammarJointRow, standIns := [], harness := (true, "46ac6082b57195e5f8aa8634dacfe582de17b765d37c29ee88d77f8928d07cd1"), looks := true }, kinds := [], alts := [], laidByText := true, laidKinds := [.sentinel, .sentinel], laidTests := true, laidLooks := .later }
def GrammarJointCardSaid : Prop := Claim7.holds Tryd.pinned (.plain (OpenSpec.ofChange grammarJointSpec)) grammarJointCard

/-- THE SECOND FORM's CARD OF 'stilelaw07.GrammarExprs'. -/
def grammarExprsUptoCard : Claim7 := { stood := { row := grammarExprsUptoRow, standIns := [], harness := (true, "46ac6082b57195e5f8aa8634dacfe582de17b765d37c29ee88d77f8928d07cd1"), looks := true }, kinds := [], alts := [], laidByText := true, laidKinds := [.sentinel, .sentinel], laidTests := true, laidLooks := .later }
def GrammarExprsUptoCardSaid : Prop := Claim7.holds Tryd.pinned (.plain (OpenSpec.upto grammarExprsSpec)) grammarExprsUptoCard

/-- THE SECOND FORM's CARD OF 'stilelaw07.GrammarParses'. -/
def grammarParsesUptoCard : Claim7 := { stood := { row := grammarParsesUptoRow, standIns := [], harness := (true, "46ac6082b57195e5f8aa8634dacfe582de17b765d37c29ee88d77f8928d07cd1"), looks := true }, kinds := [], alts := [], laidByText := true, laidKinds := [.sentinel, .sentinel], laidTests := true, laidLooks := .later }
def GrammarParsesUptoCardSaid : Prop := Claim7.holds Tryd.pinned (.plain (OpenSpec.upto grammarParsesSpec)) grammarParsesUptoCard

/-- THE SECOND FORM's CARD OF 'stilelaw07.GrammarNests'. -/
def grammarNestsUptoCard : Claim7 := { stood := { row := grammarNestsUptoRow, standIns := [], harness := (true, "46ac6082b57195e5f8aa8634dacfe582de17b765d37c29ee88d77f8928d07cd1"), looks := true }, kinds := [], alts := [], laidByText := true, laidKinds := [.sentinel, .sentinel], laidTests := true, laidLooks := .later }
def GrammarNestsUptoCardSaid : Prop := Claim7.holds Tryd.pinned (.plain (OpenSpec.upto grammarNestsSpec)) grammarNestsUptoCard

/-- THE SECOND FORM's CARD OF 'stilelaw07.GrammarJoins'. -/
def grammarJoinsUptoCard : Claim7 := { stood := { row := grammarJoinsUptoRow, standIns := [], harness := (true, "46ac6082b57195e5f8aa8634dacfe582de17b765d37c29ee88d77f8928d07cd1"), looks := true }, kinds := [], alts := [], laidByText := true, laidKinds := [.sentinel, .sentinel], laidTests := true, laidLooks := .later }
def GrammarJoinsUptoCardSaid : Prop := Claim7.holds Tryd.pinned (.plain (OpenSpec.upto grammarJoinsSpec)) grammarJoinsUptoCard

/-- THE SECOND FORM's CARD OF 'stilelaw07.GrammarJoint'. -/
def grammarJointUptoCard : Claim7 := { stood := { row := grammarJointUptoRow, standIns := [], harness := (true, "46ac6082b57195e5f8aa8634dacfe582de17b765d37c29ee88d77f8928d07cd1"), looks := true }, kinds := [], alts := [], laidByText := true, laidKinds := [.sentinel, .sentinel], laidTests := true, laidLooks := .later }
def GrammarJointUptoCardSaid : Prop := Claim7.holds Tryd.pinned (.plain (OpenSpec.upto grammarJointSpec)) grammarJointUptoCard
end Rows
end Go.Proofs.YtbphmaoomnocmaaDoor
