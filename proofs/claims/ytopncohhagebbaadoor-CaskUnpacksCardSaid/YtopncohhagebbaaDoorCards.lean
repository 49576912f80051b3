/-
  DERIVED. GIVEN WITH THE SEED: THE CARDS: each row of YtopncohhagebbaaDoorRows.lean that lists a variable, with what it lists TIED to the program's text (the seventh form; the later family's looks); each row that meets fmt, with fmt's text TOLD by the authors' own Lean function (tested against real Go, not proved from fmt's source: count such statements apart). THE CARD IS WHAT COUNTS. Prove the row's statement (the work); the ties are given (YtopncohhagebbaaDoorTie.lean); close each card by the builder's one call (the guide's Derived/Test/ToyasCard.lean, 'card_holds'). Laid BY PROGRAM, IN A SANDBOX (cutbox-door.mjs). By AI agents, Wed Nov 11 2026. No macro, syntax, notation, axiom, sorry.
-/
import Derived.Test.YtopncohhagebbaaDoorRows
import GoSem.ClaimSeven
namespace Go.Proofs.YtopncohhagebbaaDoor
namespace Rows

/-- THE TIED CARD OF 'stilelaw10.CaskUnpacks'. -/
def caskUnpacksCard : Claim7 := { stood := { row := caskUnpacksRow, standIns := [], harness := (true, "99dd62b7a6d99942adbf6abbbebc0e671f4e4907197e93300f064b29d6ce6f55"), looks := false }, kinds := [], alts := [], laidByText := true, laidKinds := [.data, .data, .data], laidTests := true, laidLooks := .later }
def CaskUnpacksCardSaid : Prop := Claim7.holds Tryd.pinned (.plain (OpenSpec.ofChange caskUnpacksSpec)) caskUnpacksCard

/-- THE SECOND FORM's CARD OF 'stilelaw10.CaskUnpacks'. -/
def caskUnpacksUptoCard : Claim7 := { stood := { row := caskUnpacksUptoRow, standIns := [], harness := (true, "99dd62b7a6d99942adbf6abbbebc0e671f4e4907197e93300f064b29d6ce6f55"), looks := false }, kinds := [], alts := [], laidByText := true, laidKinds := [.data, .data, .data], laidTests := true, laidLooks := .later }
def CaskUnpacksUptoCardSaid : Prop := Claim7.holds Tryd.pinned (.plain (OpenSpec.upto caskUnpacksSpec)) caskUnpacksUptoCard
end Rows
end Go.Proofs.YtopncohhagebbaaDoor
