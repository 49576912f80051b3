/-
  Layer 7's document: boxes of one, two, three and six cells. Written by gen/mk_dc.py.
-/
import Derived.Test.YtbphmaoomnocmaaDoorGrDr
namespace Go.Proofs.YtbphmaoomnocmaaDoor
open Go.RowKit
namespace Gr
open Knot (Turns NewRow)
open Tr (Nd none0 node4 own_slice Box4)

/-- A box. -/
def C1 (R : Nat) (T : TypeId) (a0 : Value) (x : World) : Prop := x.heap[R]? = some (.cells #[a0] T (0, 0))
section
variable {R : Nat} {T : TypeId} {a0 : Value} {x y : World}
theorem C1.lt (h : C1 R T a0 x) : R < x.heap.size := (Array.getElem?_eq_some_iff.1 h).1
theorem C1.cells (h : C1 R T a0 x) : x.cell? ⟨R, 0, none⟩ = some a0 :=
  by rw [Lib.cell_of_heap h]; rfl
theorem C1.free (h : C1 R T a0 x) : x.frozen? ⟨R, 0, none⟩ = false := Lib.frozen_of_heap h 0
theorem C1.on (h : C1 R T a0 x) (hb : Below x.heap.size x y) : C1 R T a0 y := (hb.block R h.lt).trans h
theorem C1.turn {F : Nat → Prop} (h : C1 R T a0 x) (ht : Turns F x y) (hF : ¬ F R) : C1 R T a0 y := ht.heap h hF
theorem C1.new (x : World) (T : TypeId) (a0 : Value) : C1 x.heap.size T a0 (x.alloc (.cells #[a0] T)) := heap_alloc_new x _
end
/-- A box. -/
def C2 (R : Nat) (T : TypeId) (a0 a1 : Value) (x : World) : Prop := x.heap[R]? = some (.cells #[a0, a1] T (0, 0))
section
variable {R : Nat} {T : TypeId} {a0 a1 : Value} {x y : World}
theorem C2.lt (h : C2 R T a0 a1 x) : R < x.heap.size := (Array.getElem?_eq_some_iff.1 h).1
theorem C2.cells (h : C2 R T a0 a1 x) : x.cell? ⟨R, 0, none⟩ = some a0 ∧ x.cell? ⟨R, 1, none⟩ = some a1 :=
  ⟨by rw [Lib.cell_of_heap h]; rfl, by rw [Lib.cell_of_heap h]; rfl⟩
theorem C2.free (h : C2 R T a0 a1 x) : x.frozen? ⟨R, 0, none⟩ = false ∧ x.frozen? ⟨R, 1, none⟩ = false := ⟨Lib.frozen_of_heap h 0, Lib.frozen_of_heap h 1⟩
theorem C2.on (h : C2 R T a0 a1 x) (hb : Below x.heap.size x y) : C2 R T a0 a1 y := (hb.block R h.lt).trans h
theorem C2.turn {F : Nat → Prop} (h : C2 R T a0 a1 x) (ht : Turns F x y) (hF : ¬ F R) : C2 R T a0 a1 y := ht.heap h hF
theorem C2.new (x : World) (T : TypeId) (a0 a1 : Value) : C2 x.heap.size T a0 a1 (x.alloc (.cells #[a0, a1] T)) := heap_alloc_new x _
end
/-- A box. -/
def C3 (R : Nat) (T : TypeId) (a0 a1 a2 : Value) (x : World) : Prop := x.heap[R]? = some (.cells #[a0, a1, a2] T (0, 0))
section
variable {R : Nat} {T : TypeId} {a0 a1 a2 : Value} {x y : World}
theorem C3.lt (h : C3 R T a0 a1 a2 x) : R < x.heap.size := (Array.getElem?_eq_some_iff.1 h).1
theorem C3.cells (h : C3 R T a0 a1 a2 x) : x.cell? ⟨R, 0, none⟩ = some a0 ∧ x.cell? ⟨R, 1, none⟩ = some a1 ∧ x.cell? ⟨R, 2, none⟩ = some a2 :=
  ⟨by rw [Lib.cell_of_heap h]; rfl, by rw [Lib.cell_of_heap h]; rfl, by rw [Lib.cell_of_heap h]; rfl⟩
theorem C3.free (h : C3 R T a0 a1 a2 x) : x.frozen? ⟨R, 0, none⟩ = false ∧ x.frozen? ⟨R, 1, none⟩ = false ∧ x.frozen? ⟨R, 2, none⟩ = false := ⟨Lib.frozen_of_heap h 0, Lib.frozen_of_heap h 1, Lib.frozen_of_heap h 2⟩
theorem C3.on (h : C3 R T a0 a1 a2 x) (hb : Below x.heap.size x y) : C3 R T a0 a1 a2 y := (hb.block R h.lt).trans h
theorem C3.turn {F : Nat → Prop} (h : C3 R T a0 a1 a2 x) (ht : Turns F x y) (hF : ¬ F R) : C3 R T a0 a1 a2 y := ht.heap h hF
theorem C3.new (x : World) (T : TypeId) (a0 a1 a2 : Value) : C3 x.heap.size T a0 a1 a2 (x.alloc (.cells #[a0, a1, a2] T)) := heap_alloc_new x _
end
/-- A box. -/
def C6 (R : Nat) (T : TypeId) (a0 a1 a2 a3 a4 a5 : Value) (x : World) : Prop := x.heap[R]? = some (.cells #[a0, a1, a2, a3, a4, a5] T (0, 0))
section
variable {R : Nat} {T : TypeId} {a0 a1 a2 a3 a4 a5 : Value} {x y : World}
theorem C6.lt (h : C6 R T a0 a1 a2 a3 a4 a5 x) : R < x.heap.size := (Array.getElem?_eq_some_iff.1 h).1
theorem C6.cells (h : C6 R T a0 a1 a2 a3 a4 a5 x) : x.cell? ⟨R, 0, none⟩ = some a0 ∧ x.cell? ⟨R, 1, none⟩ = some a1 ∧ x.cell? ⟨R, 2, none⟩ = some a2 ∧ x.cell? ⟨R, 3, none⟩ = some a3 ∧ x.cell? ⟨R, 4, none⟩ = some a4 ∧ x.cell? ⟨R, 5, none⟩ = some a5 :=
  ⟨by rw [Lib.cell_of_heap h]; rfl, by rw [Lib.cell_of_heap h]; rfl, by rw [Lib.cell_of_heap h]; rfl, by rw [Lib.cell_of_heap h]; rfl, by rw [Lib.cell_of_heap h]; rfl, by rw [Lib.cell_of_heap h]; rfl⟩
theorem C6.free (h : C6 R T a0 a1 a2 a3 a4 a5 x) : x.frozen? ⟨R, 0, none⟩ = false ∧ x.frozen? ⟨R, 1, none⟩ = false ∧ x.frozen? ⟨R, 2, none⟩ = false ∧ x.frozen? ⟨R, 3, none⟩ = false ∧ x.frozen? ⟨R, 4, none⟩ = false ∧ x.frozen? ⟨R, 5, none⟩ = false := ⟨Lib.frozen_of_heap h 0, Lib.frozen_of_heap h 1, Lib.frozen_of_heap h 2, Lib.frozen_of_heap h 3, Lib.frozen_of_heap h 4, Lib.frozen_of_heap h 5⟩
theorem C6.on (h : C6 R T a0 a1 a2 a3 a4 a5 x) (hb : Below x.heap.size x y) : C6 R T a0 a1 a2 a3 a4 a5 y := (hb.block R h.lt).trans h
theorem C6.turn {F : Nat → Prop} (h : C6 R T a0 a1 a2 a3 a4 a5 x) (ht : Turns F x y) (hF : ¬ F R) : C6 R T a0 a1 a2 a3 a4 a5 y := ht.heap h hF
theorem C6.new (x : World) (T : TypeId) (a0 a1 a2 a3 a4 a5 : Value) : C6 x.heap.size T a0 a1 a2 a3 a4 a5 (x.alloc (.cells #[a0, a1, a2, a3, a4, a5] T)) := heap_alloc_new x _
end
end Gr
end Go.Proofs.YtbphmaoomnocmaaDoor
