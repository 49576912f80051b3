/-
  Layer 7 (grammar): the law's SameConfig, walked: two configurations that lie in memory and hold the same are the same.
-/
import Derived.Test.YtopncohhagebbaaGreatDoorGrSame
import Derived.BigQuiet
namespace Go.Proofs.YtopncohhagebbaaGreatDoor
open Go.RowKit
namespace Gr
open Tr (Nd IsNode RowAt Box4 node4 size)
open Knot (Turns NewRow)

def Fit (l : List Ty) : Prop := ∀ t ∈ l, ∀ r ∈ t.rels, size r.expr ≤ 100000
theorem two_boxes (w : World) (c1 c2 : Array Value) (T U : TypeId) : Below w.heap.size w ((w.alloc (.cells c1 T)).alloc (.cells c2 U)) ∧
    ((w.alloc (.cells c1 T)).alloc (.cells c2 U)).heap[w.heap.size]? = some (.cells c1 T (0, 0)) ∧ ((w.alloc (.cells c1 T)).alloc (.cells c2 U)).heap[w.heap.size + 1]? = some (.cells c2 U (0, 0)) ∧ ((w.alloc (.cells c1 T)).alloc (.cells c2 U)).heap.size = w.heap.size + 2 := by
  have s1 : (w.alloc (.cells c1 T)).heap.size = w.heap.size + 1 := by simp
  have n2 := heap_alloc_new (w.alloc (.cells c1 T)) (.cells c2 U)
  rw [s1] at n2
  exact ⟨((Below.refl _ _).alloc (Nat.le_refl _) _).alloc (by simp) _, (((Below.refl (w.heap.size + 1) (w.alloc (.cells c1 T))).alloc (by simp) (.cells c2 U)).block w.heap.size (by omega)).trans (heap_alloc_new w _), n2, by simp⟩
theorem box1 {x : World} {R : Nat} {T : TypeId} {a : Value} (h : x.heap[R]? = some (.cells #[a] T (0, 0))) : x.cell? ⟨R, 0, none⟩ = some a := by rw [Lib.cell_of_heap h]; rfl
theorem box2 {x : World} {R : Nat} {T : TypeId} {a b : Value} (h : x.heap[R]? = some (.cells #[a, b] T (0, 0))) : x.cell? ⟨R, 0, none⟩ = some a ∧ x.cell? ⟨R, 1, none⟩ = some b := ⟨by rw [Lib.cell_of_heap h]; rfl, by rw [Lib.cell_of_heap h]; rfl⟩
theorem box6 {x : World} {R : Nat} {T : TypeId} {a b c d e f : Value} (h : x.heap[R]? = some (.cells #[a, b, c, d, e, f] T (0, 0))) :
    x.cell? ⟨R, 0, none⟩ = some a ∧ x.cell? ⟨R, 1, none⟩ = some b ∧ x.cell? ⟨R, 2, none⟩ = some c ∧ x.cell? ⟨R, 3, none⟩ = some d ∧ x.cell? ⟨R, 4, none⟩ = some e ∧ x.cell? ⟨R, 5, none⟩ = some f :=
  ⟨by rw [Lib.cell_of_heap h]; rfl, by rw [Lib.cell_of_heap h]; rfl, by rw [Lib.cell_of_heap h]; rfl, by rw [Lib.cell_of_heap h]; rfl, by rw [Lib.cell_of_heap h]; rfl, by rw [Lib.cell_of_heap h]; rfl⟩
end Gr
end Go.Proofs.YtopncohhagebbaaGreatDoor
