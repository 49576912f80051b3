/-
  Layer 13's statements: lists of bytes, of records and of acts, rings and pairs as arguments.
-/
import Derived.Test.YtdodmjcbjknneaaTaArg
namespace Go.Proofs.Ytdodmjcbjknneaa
set_option maxRecDepth 100000
open Go.ChangeShapes Go.WideShapes Go.ChangeAt Go.RowKit Go.Joins Go.Deep
open Ta (Row IsBytes IsFlags Act IsAct bytes_cells flags_cells bulk_len bulk_mem add_at plain cellsInt cellsBs cellsFs)
namespace Sp
section
variable {H : Type} {enc : TypeId × Value → H} {W : World} {base : Nat} {held : Bool}
theorem bytes_arg {v : Value} {d : DataW H} {p : List MemPlace} (hv : Value.okWide Try.prog W .any base 22 v) (h : DataW.Trod enc Try.prog W 0 (fun _ => true) true 22 v d p) : ∃ l, IsBytes W v l ∧ l.length ≤ Rows.uptoBulk d := by
  obtain ⟨a1, len, cap, rfl⟩ := okWide_slice Try.underlying22 hv
  obtain ⟨fuel, hf⟩ := h
  simp only [Value.cells] at hf
  obtain ⟨v, l, e, h1, h2⟩ := bytes_cells hf
  obtain rfl : _ = v := by simpa using e
  exact ⟨l, h1, h2⟩
end
end Sp
end Go.Proofs.Ytdodmjcbjknneaa
