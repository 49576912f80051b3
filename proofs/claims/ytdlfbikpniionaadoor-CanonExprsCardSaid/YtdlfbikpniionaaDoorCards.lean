/-
  DERIVED. GIVEN WITH THE SEED: THE CARDS: each row of YtdlfbikpniionaaDoorRows.lean that lists a variable, with what it lists TIED to the program's text (the seventh form; the later family's looks); each row that meets fmt, with fmt's text TOLD by the authors' own Lean function (tested against real Go, not proved from fmt's source: count such statements apart). THE CARD IS WHAT COUNTS. Prove the row's statement (the work); the ties are given (YtdlfbikpniionaaDoorTie.lean); close each card by the builder's one call (the guide's Derived/Test/ToyasCard.lean, 'card_holds'). Laid BY PROGRAM, IN A SANDBOX (cutbox-door.mjs). By AI agents, Wed Nov 11 2026. No macro, syntax, notation, axiom, sorry.
-/
import Derived.Test.YtdlfbikpniionaaDoorRows
import GoSem.ClaimSeven
namespace Go.Proofs.YtdlfbikpniionaaDoor
namespace Rows

/-- THE TIED CARD OF 'stilelaw08.CanonExprs'. -/
def canonExprsCard : Claim7 := { stood := { row := canonExprsRow, standIns := [], harness := (true, "9663589c838774d2784b4b8cf4dde516c4f60488fdaf8a697a2d2b7d48eaa395"), looks := true }, kinds := [], alts := [], laidByText := true, laidKinds := [.sentinel, .sentinel], laidTests := true, laidLooks := .later }
def CanonExprsCardSaid : Prop := Claim7.holds Tryd.pinned (.plain (OpenSpec.ofChange canonExprsSpec)) canonExprsCard

/-- THE SECOND FORM's CARD OF 'stilelaw08.CanonExprs'. -/
def canonExprsUptoCard : Claim7 := { stood := { row := canonExprsUptoRow, standIns := [], harness := (true, "9663589c838774d2784b4b8cf4dde516c4f60488fdaf8a697a2d2b7d48eaa395"), looks := true }, kinds := [], alts := [], laidByText := true, laidKinds := [.sentinel, .sentinel], laidTests := true, laidLooks := .later }
def CanonExprsUptoCardSaid : Prop := Claim7.holds Tryd.pinned (.plain (OpenSpec.upto canonExprsSpec)) canonExprsUptoCard
end Rows
end Go.Proofs.YtdlfbikpniionaaDoor
