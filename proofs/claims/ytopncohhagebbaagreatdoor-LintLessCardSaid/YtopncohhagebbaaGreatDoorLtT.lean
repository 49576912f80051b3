/-
  Layer 9: a list of texts as an argument.
-/
import Derived.Test.YtopncohhagebbaaGreatDoorCnArg
import Derived.Test.YtopncohhagebbaaGreatDoorLtLess
namespace Go.Proofs.YtopncohhagebbaaGreatDoor
open Go.ChangeShapes Go.WideShapes Go.ChangeAt Go.RowKit Go.Joins Go.Deep
namespace Lt
open Gr (Lies)

def IsTx (_ : World) (s : ByteArray) (v : Value) : Prop := v = .agg #[.string s]
set_option maxRecDepth 100000 in
theorem cellsTx : Tryz.prog.cellsOf 9 = 1 := by kernel_rfl
set_option maxRecDepth 100000 in
theorem elemTx : Tryz.prog.underlying 37 = some (.slice (Tryz.prog.elem 37)) := by kernel_rfl
set_option maxRecDepth 100000 in
theorem sizeTx (w : World) : (sizeOf (Tryz.prog.elem 37)).run Tryz.prog w = .ok 1 w := by kernel_rfl
set_option maxRecDepth 100000 in
theorem texts_arg {H : Type} {enc : TypeId × Value → H} {W : World} {base : Nat} {v : Value} {d : DataW H} {p : List MemPlace} (hv : Value.okWide Tryz.prog W .any base 37 v) (h : DataW.Trod enc Tryz.prog W 0 (fun _ => true) true 37 v d p) :
    ∃ ao cap l us, v = .slice ao l.length cap ∧ Lies IsTx 1 W ao l us ∧ (∀ s ∈ l, s.size ≤ maxLen) ∧ l.length ≤ cap := by
  obtain ⟨a1, len, cap, rfl⟩ := okWide_slice Tryz.underlying37 hv
  obtain ⟨fuel, hf⟩ := h
  obtain ⟨ao, cap', l, us, e, hl, -, -⟩ := Cn.lies_arg (K := fun _ _ => True) (P := fun w s u => IsTx w s u ∧ s.size ≤ maxLen) Tryz.underlying37 cellsTx (by decide) (fun n cs y hl h => by
    match cs, hl with
    | [c], _ =>
      obtain ⟨s, rfl, hs⟩ := Cn.text_of h
      exact ⟨s, ⟨rfl, hs⟩, trivial⟩) hf
  obtain ⟨h1, h2⟩ := Cn.lies_and hl
  have hc : len ≤ cap := by
    rcases open_slice Tryz.underlying37 hf with ⟨e0, -⟩ | ⟨a, len', cap2, m, n, D, Pl, e0, -, hl2, -⟩
    · obtain ⟨-, rfl, rfl⟩ : a1 = none ∧ len = 0 ∧ cap = 0 := by simpa [Value.cells] using e0
      exact Nat.le_refl _
    · obtain ⟨-, rfl, rfl⟩ : a1 = some a ∧ len = len' ∧ cap = cap2 := by simpa [Value.cells] using e0
      exact hl2
  obtain ⟨rfl, rfl, rfl⟩ : a1 = ao ∧ len = l.length ∧ cap = cap' := by simpa [Value.cells] using e
  exact ⟨a1, cap, l, us, rfl, h1, h2, hc⟩
section
variable {w x : World} {ao : Option Addr} {l : List ByteArray} {us : List Value}
theorem tx_at (h : Lies IsTx 1 w ao l us) (cap : Nat) {i : Nat} (hi : i < l.length) :
    ∃ g q, (∀ W, (Instr.indexAt 37 (.slice ao l.length cap) (.int .i64 (i : Int))).run Tryz.prog W = .ok (.pointer (some ⟨g, q, none⟩)) W) ∧ g < w.heap.size ∧ w.cell? ⟨g, q, none⟩ = some (.string l[i]) := by
  obtain ⟨g, q, u, h1, h2, h3, rfl⟩ := h.at elemTx sizeTx (by decide) cap hi
  exact ⟨g, q, h1, h2, h3 0 _ rfl⟩
theorem tx_take (h : Lies IsTx 1 w ao l us) {k : Nat} (hk : k ≤ l.length) : Lies IsTx 1 w ao (l.take k) (us.take k) := by
  refine ⟨by rw [List.length_take, List.length_take, h.len], Nat.le_trans (by rw [List.length_take]; omega) h.big, fun hne => ?_, fun i a u ha hu => ?_⟩
  · obtain ⟨g, o, e, hr⟩ := h.row (fun e => hne (by rw [e, List.take_nil]))
    refine ⟨g, o, e, fun i u hu => hr i u ?_⟩
    rw [List.getElem?_take] at hu
    split at hu
    · exact hu
    · cases hu
  · rw [List.getElem?_take] at ha hu
    split at ha
    · rename_i hik
      rw [if_pos hik] at hu
      exact h.is i a u ha hu
    · cases ha
end
end Lt
end Go.Proofs.YtopncohhagebbaaGreatDoor
