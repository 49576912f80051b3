/-
  Layer 6 (sigil): package sigil's End.
-/
import Derived.Test.YtbphmaoomnocmaaDoorSgC
import Derived.Test.YtbphmaoomnocmaaDoorHeld
import Derived.Test.YtbphmaoomnocmaaDoorClone
namespace Go.Proofs.YtbphmaoomnocmaaDoor
open Go.RowKit
namespace Sg
open Gl (drop_ne width drop_next drop_end)

/-- All that a range tells, stray bytes too. -/
def told (l : List UInt8) : List Nat :=
  if _h : l = [] then [] else (Gly.dec l).1 :: told (l.drop (Gly.dec l).2)
termination_by l.length
decreasing_by exact Gly.drop_lt (by assumption)
theorem told_nil : told [] = [] := by rw [told]; rfl
theorem told_step {l : List UInt8} (h : l ≠ []) : told l = (Gly.dec l).1 :: told (l.drop (Gly.dec l).2) := by rw [told, dif_neg h]
theorem told_runes : ∀ (k : Nat) (l : List UInt8) (q : List Nat), l.length ≤ k → Gly.runes l = some q → told l = q
  | k, l, q, hk, hq => by
    by_cases h : l = []
    · subst h; rw [Gly.runes_nil] at hq; cases hq; exact told_nil
    · have hl := Gly.drop_lt h
      obtain ⟨k, rfl⟩ : ∃ j, k = j + 1 := ⟨k - 1, by omega⟩
      rw [Gly.runes_step h (Gly.runes_good hq h)] at hq
      cases hu : Gly.runes (l.drop (Gly.dec l).2) with
      | none => rw [hu] at hq; cases hq
      | some u =>
        rw [hu] at hq; cases hq
        rw [told_step h, told_runes k _ u (by omega) hu]
theorem told_len : ∀ (k : Nat) (l : List UInt8), l.length ≤ k → (told l).length ≤ l.length
  | k, l, hk => by
    by_cases h : l = []
    · subst h; rw [told_nil]; simp
    · have hl := Gly.drop_lt h
      obtain ⟨k, rfl⟩ : ∃ j, k = j + 1 := ⟨k - 1, by omega⟩
      have := told_len k (l.drop (Gly.dec l).2) (by omega)
      rw [told_step h, List.length_cons]; omega

/-- A place in a box. -/
def PlB (R : Nat) (p : Nat × Nat) (x : World) : Prop := x.heap[R]? = some (.cells #[.int .i64 (p.1 : Nat), .int .i64 (p.2 : Nat)] 27 (0, 0))
theorem PlB.lt {R : Nat} {p : Nat × Nat} {x : World} (h : PlB R p x) : R < x.heap.size := (Array.getElem?_eq_some_iff.1 h).1
theorem PlB.cells {R : Nat} {p : Nat × Nat} {x : World} (h : PlB R p x) : x.cell? ⟨R, 0, none⟩ = some (.int .i64 (p.1 : Nat)) ∧ x.cell? ⟨R, 1, none⟩ = some (.int .i64 (p.2 : Nat)) :=
  ⟨by rw [Lib.cell_of_heap h]; rfl, by rw [Lib.cell_of_heap h]; rfl⟩
theorem PlB.free {R : Nat} {p : Nat × Nat} {x : World} (h : PlB R p x) : x.frozen? ⟨R, 0, none⟩ = false ∧ x.frozen? ⟨R, 1, none⟩ = false := by
  constructor <;> · unfold World.frozen?; rw [h]; rfl
theorem PlB.on {R : Nat} {p : Nat × Nat} {x y : World} (h : PlB R p x) (hb : Below x.heap.size x y) : PlB R p y := (hb.block R h.lt).trans h

theorem PlB.of_iter {R k : Nat} {p : Nat × Nat} {x : World} (h : PlB R p x) (hk : R ≠ k) (s : ByteArray) (pos : Nat) : PlB R p (x.iterAt k s pos) := (Lib.iterAt_other x k R s pos hk).trans h
theorem PlB.new (w : World) (p : Nat × Nat) : PlB w.heap.size p (w.alloc (.cells #[.int .i64 (p.1 : Nat), .int .i64 (p.2 : Nat)] 27)) := heap_alloc_new w _
/-- Another place in the same box. -/
theorem PlB.put {R : Nat} {p : Nat × Nat} {x : World} (h : PlB R p x) (a b : Nat) : PlB R (a, b) ((x.setCell ⟨R, 0, none⟩ (.int .i64 (a : Nat))).setCell ⟨R, 1, none⟩ (.int .i64 (b : Nat))) := by
  have h1 := Lib.heap_setCell_same (i := 0) h (.int .i64 (a : Nat))
  have h2 := Lib.heap_setCell_same (i := 1) h1 (.int .i64 (b : Nat))
  exact h2
theorem put_cells {R : Nat} {p : Nat × Nat} {x : World} (h : PlB R p x) (a b : Nat) :
    (x.setCell ⟨R, 0, none⟩ (.int .i64 (a : Nat))).cell? ⟨R, 0, none⟩ = some (.int .i64 (a : Nat)) ∧ ((x.setCell ⟨R, 0, none⟩ (.int .i64 (a : Nat))).setCell ⟨R, 1, none⟩ (.int .i64 (b : Nat))).cell? ⟨R, 1, none⟩ = some (.int .i64 (b : Nat)) := by
  have h1 := Lib.heap_setCell_same (i := 0) h (.int .i64 (a : Nat))
  exact ⟨by rw [Lib.cell_of_heap h1]; rfl, (h.put a b).cells.2⟩
/-- A place is stored in a box. -/
def setPl (x : World) (P : Nat) (p : Nat × Nat) : World := (x.setCell ⟨P, 0, none⟩ (.int .i64 (p.1 : Nat))).setCell ⟨P, 1, none⟩ (.int .i64 (p.2 : Nat))
theorem setPl_other (x : World) (P : Nat) (p : Nat × Nat) {k : Nat} (hk : k ≠ P) : (setPl x P p).heap[k]? = x.heap[k]? :=
  (Below.heap_setCell _ _ _ k hk).trans (Below.heap_setCell _ _ _ k hk)
theorem setPl_below {w x : World} {B P : Nat} (p : Nat × Nat) (h : Below B w x) (hB : B ≤ P) : Below B w (setPl x P p) := (h.setCell (p := ⟨P, 0, none⟩) hB _).setCell (p := ⟨P, 1, none⟩) hB _
theorem PlB.set {P : Nat} {p : Nat × Nat} {x : World} (h : PlB P p x) (q : Nat × Nat) : PlB P q (setPl x P q) := h.put q.1 q.2
theorem setPl_size (x : World) (P : Nat) (p : Nat × Nat) : (setPl x P p).heap.size = x.heap.size := by simp [setPl, World.setCell]
end Sg
end Go.Proofs.YtbphmaoomnocmaaDoor
