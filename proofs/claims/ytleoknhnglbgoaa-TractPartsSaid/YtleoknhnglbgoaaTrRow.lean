/-
  Layer 5 (tract): a reference in a list of them.
-/
import Derived.Test.YtleoknhnglbgoaaTrRRefs
namespace Go.Proofs.Ytleoknhnglbgoaa
open Go.RowKit
namespace Tr

theorem cellsR_at : ∀ (l : List Rf) {j : Nat} (h : j < l.length), (cellsR l)[j * 3]? = some (.string l[j].via) ∧ (cellsR l)[j * 3 + 1]? = some (.string l[j].rel) ∧ (cellsR l)[j * 3 + 2]? = some (.bool l[j].odd)
  | r :: l, 0, _ => ⟨rfl, rfl, rfl⟩
  | r :: l, j + 1, h => by
    have ih := cellsR_at l (j := j) (by simpa using h)
    have e : ∀ c, (cellsR (r :: l))[(j + 1) * 3 + c]? = (cellsR l)[j * 3 + c]? := fun c => by
      rw [show (j + 1) * 3 + c = (j * 3 + c) + 3 by omega]
      rfl
    have e0 := e 0
    rw [Nat.add_zero, Nat.add_zero] at e0
    exact ⟨e0.trans ih.1, (e 1).trans ih.2.1, (e 2).trans ih.2.2⟩
theorem elemR : Try.prog.underlying 35 = some (.slice (Try.prog.elem 35)) := by kernel_rfl
theorem sizeR : ∀ w, (sizeOf (Try.prog.elem 35)).run Try.prog w = .ok 3 w := fun w => by kernel_rfl
theorem elemRR : Try.prog.underlying 37 = some (.slice (Try.prog.elem 37)) := by kernel_rfl
theorem sizeRR : ∀ w, (sizeOf (Try.prog.elem 37)).run Try.prog w = .ok 3 w := fun w => by kernel_rfl
/-- A reference of a list: where it lies. -/
def RefCells (x : World) (g q : Nat) (r : Rf) : Prop := x.cell? ⟨g, q, none⟩ = some (.string r.via) ∧ x.cell? ⟨g, q + 1, none⟩ = some (.string r.rel) ∧ x.cell? ⟨g, q + 2, none⟩ = some (.bool r.odd)
theorem ref_at {B : Nat} {x : World} {v : Value} {s : List Rf} (h : RefsAt B x v s) {j : Nat} (hj : j < s.length) :
    ∃ g q, (∀ W, (Instr.indexAt 35 v (.int .i64 (j : Int))).run Try.prog W = .ok (.pointer (some ⟨g, q, none⟩)) W) ∧ g < x.heap.size ∧ RefCells x g q s[j] := by
  obtain ⟨n, hn⟩ : ∃ n, s.length = n + 1 := ⟨s.length - 1, by omega⟩
  have h' : x.ownsRow B 41 3 v s.length (cellsR s) := h
  rw [hn] at h'
  obtain ⟨g, rc, rfl, -, hg, -, hc⟩ := own_open h'
  obtain ⟨c0, c1, c2⟩ := cellsR_at s hj
  refine ⟨g, j * 3, fun W => ?_, hg, hc _ _ c0, hc _ _ c1, hc _ _ c2⟩
  rw [run_indexAt_slice W _ _ _ _ _ _ elemR, if_pos ⟨by omega, by omega⟩, sizeR]
  have e : ((j : Int)).toNat = j := by omega
  simp only [Result.andThen_ok, e, Addr.add_lit, Nat.zero_add]
theorem rref_at {B : Nat} {x : World} {v : Value} {s : List Rf} (h : RRefsAt B x v s) {j : Nat} (hj : j < s.length) :
    ∃ g q, (∀ W, (Instr.indexAt 37 v (.int .i64 (j : Int))).run Try.prog W = .ok (.pointer (some ⟨g, q, none⟩)) W) ∧ g < x.heap.size ∧ RefCells x g q s[j] := by
  obtain ⟨n, hn⟩ : ∃ n, s.length = n + 1 := ⟨s.length - 1, by omega⟩
  have h' : x.ownsRow B 40 3 v s.length (cellsR s) := h
  rw [hn] at h'
  obtain ⟨g, rc, rfl, -, hg, -, hc⟩ := own_open h'
  obtain ⟨c0, c1, c2⟩ := cellsR_at s hj
  refine ⟨g, j * 3, fun W => ?_, hg, hc _ _ c0, hc _ _ c1, hc _ _ c2⟩
  rw [run_indexAt_slice W _ _ _ _ _ _ elemRR, if_pos ⟨by omega, by omega⟩, sizeRR]
  have e : ((j : Int)).toNat = j := by omega
  simp only [Result.andThen_ok, e, Addr.add_lit, Nat.zero_add]
theorem RefCells.on {x y : World} {g q : Nat} {r : Rf} (h : RefCells x g q r) (hg : g < x.heap.size) (hb : Below x.heap.size x y) : RefCells y g q r :=
  ⟨(hb.cell (p := ⟨g, q, none⟩) hg).trans h.1, (hb.cell (p := ⟨g, q + 1, none⟩) hg).trans h.2.1, (hb.cell (p := ⟨g, q + 2, none⟩) hg).trans h.2.2⟩
end Tr
end Go.Proofs.Ytleoknhnglbgoaa
