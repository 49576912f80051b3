/-
  Layer 10's document: boxes; rows that lie apart from blocks. (Made of XGrDx, XGrDc, XGrDr, whose package this stage has not.)
-/
import Derived.Test.YtopncohhagebbaaDoorMgRd
import Derived.Deep.DeepCutAuto
namespace Go.Proofs.YtopncohhagebbaaDoor
open Go.RowKit
namespace Ck
open Knot (Turns NewRow)
open Tr (Nd none0 node4 own_slice own_turn IsElem append_rows)
open Gr (Elt RowS cellsV cellsV_append cellsV_one)

/-- A box of four cells. -/
def C4 (R : Nat) (T : TypeId) (a b c d : Value) (x : World) : Prop := x.heap[R]? = some (.cells #[a, b, c, d] T (0, 0))
section
variable {R : Nat} {T : TypeId} {a b c d : Value} {x y : World}
theorem C4.lt (h : C4 R T a b c d x) : R < x.heap.size := (Array.getElem?_eq_some_iff.1 h).1
theorem C4.cells (h : C4 R T a b c d x) : x.cell? ⟨R, 0, none⟩ = some a ∧ x.cell? ⟨R, 1, none⟩ = some b ∧ x.cell? ⟨R, 2, none⟩ = some c ∧ x.cell? ⟨R, 3, none⟩ = some d :=
  ⟨by rw [Lib.cell_of_heap h]; rfl, by rw [Lib.cell_of_heap h]; rfl, by rw [Lib.cell_of_heap h]; rfl, by rw [Lib.cell_of_heap h]; rfl⟩
theorem C4.free (h : C4 R T a b c d x) : x.frozen? ⟨R, 0, none⟩ = false ∧ x.frozen? ⟨R, 1, none⟩ = false ∧ x.frozen? ⟨R, 2, none⟩ = false ∧ x.frozen? ⟨R, 3, none⟩ = false := ⟨Lib.frozen_of_heap h 0, Lib.frozen_of_heap h 1, Lib.frozen_of_heap h 2, Lib.frozen_of_heap h 3⟩
theorem C4.on (h : C4 R T a b c d x) (hb : Below x.heap.size x y) : C4 R T a b c d y := (hb.block R h.lt).trans h
theorem C4.turn {F : Nat → Prop} (h : C4 R T a b c d x) (ht : Turns F x y) (hF : ¬ F R) : C4 R T a b c d y := ht.heap h hF
theorem C4.new (x : World) (T : TypeId) (a b c d : Value) : C4 x.heap.size T a b c d (x.alloc (.cells #[a, b, c, d] T)) := heap_alloc_new x _
end
/-- A box. -/
def C1 (R : Nat) (T : TypeId) (a0 : Value) (x : World) : Prop := x.heap[R]? = some (.cells #[a0] T (0, 0))
section
variable {R : Nat} {T : TypeId} {a0 : Value} {x y : World}
theorem C1.lt (h : C1 R T a0 x) : R < x.heap.size := (Array.getElem?_eq_some_iff.1 h).1
theorem C1.cells (h : C1 R T a0 x) : x.cell? ⟨R, 0, none⟩ = some a0 :=
  by rw [Lib.cell_of_heap h]; rfl
theorem C1.free (h : C1 R T a0 x) : x.frozen? ⟨R, 0, none⟩ = false := Lib.frozen_of_heap h 0
theorem C1.on (h : C1 R T a0 x) (hb : Below x.heap.size x y) : C1 R T a0 y := (hb.block R h.lt).trans h
theorem C1.turn {F : Nat → Prop} (h : C1 R T a0 x) (ht : Turns F x y) (hF : ¬ F R) : C1 R T a0 y := ht.heap h hF
theorem C1.new (x : World) (T : TypeId) (a0 : Value) : C1 x.heap.size T a0 (x.alloc (.cells #[a0] T)) := heap_alloc_new x _
end
/-- A box. -/
def C2 (R : Nat) (T : TypeId) (a0 a1 : Value) (x : World) : Prop := x.heap[R]? = some (.cells #[a0, a1] T (0, 0))
section
variable {R : Nat} {T : TypeId} {a0 a1 : Value} {x y : World}
theorem C2.lt (h : C2 R T a0 a1 x) : R < x.heap.size := (Array.getElem?_eq_some_iff.1 h).1
theorem C2.cells (h : C2 R T a0 a1 x) : x.cell? ⟨R, 0, none⟩ = some a0 ∧ x.cell? ⟨R, 1, none⟩ = some a1 :=
  ⟨by rw [Lib.cell_of_heap h]; rfl, by rw [Lib.cell_of_heap h]; rfl⟩
theorem C2.free (h : C2 R T a0 a1 x) : x.frozen? ⟨R, 0, none⟩ = false ∧ x.frozen? ⟨R, 1, none⟩ = false := ⟨Lib.frozen_of_heap h 0, Lib.frozen_of_heap h 1⟩
theorem C2.on (h : C2 R T a0 a1 x) (hb : Below x.heap.size x y) : C2 R T a0 a1 y := (hb.block R h.lt).trans h
theorem C2.turn {F : Nat → Prop} (h : C2 R T a0 a1 x) (ht : Turns F x y) (hF : ¬ F R) : C2 R T a0 a1 y := ht.heap h hF
theorem C2.new (x : World) (T : TypeId) (a0 a1 : Value) : C2 x.heap.size T a0 a1 (x.alloc (.cells #[a0, a1] T)) := heap_alloc_new x _
end
/-- A box. -/
def C3 (R : Nat) (T : TypeId) (a0 a1 a2 : Value) (x : World) : Prop := x.heap[R]? = some (.cells #[a0, a1, a2] T (0, 0))
section
variable {R : Nat} {T : TypeId} {a0 a1 a2 : Value} {x y : World}
theorem C3.lt (h : C3 R T a0 a1 a2 x) : R < x.heap.size := (Array.getElem?_eq_some_iff.1 h).1
theorem C3.cells (h : C3 R T a0 a1 a2 x) : x.cell? ⟨R, 0, none⟩ = some a0 ∧ x.cell? ⟨R, 1, none⟩ = some a1 ∧ x.cell? ⟨R, 2, none⟩ = some a2 :=
  ⟨by rw [Lib.cell_of_heap h]; rfl, by rw [Lib.cell_of_heap h]; rfl, by rw [Lib.cell_of_heap h]; rfl⟩
theorem C3.free (h : C3 R T a0 a1 a2 x) : x.frozen? ⟨R, 0, none⟩ = false ∧ x.frozen? ⟨R, 1, none⟩ = false ∧ x.frozen? ⟨R, 2, none⟩ = false := ⟨Lib.frozen_of_heap h 0, Lib.frozen_of_heap h 1, Lib.frozen_of_heap h 2⟩
theorem C3.on (h : C3 R T a0 a1 a2 x) (hb : Below x.heap.size x y) : C3 R T a0 a1 a2 y := (hb.block R h.lt).trans h
theorem C3.turn {F : Nat → Prop} (h : C3 R T a0 a1 a2 x) (ht : Turns F x y) (hF : ¬ F R) : C3 R T a0 a1 a2 y := ht.heap h hF
theorem C3.new (x : World) (T : TypeId) (a0 a1 a2 : Value) : C3 x.heap.size T a0 a1 a2 (x.alloc (.cells #[a0, a1, a2] T)) := heap_alloc_new x _
end
/-- A box. -/
def C6 (R : Nat) (T : TypeId) (a0 a1 a2 a3 a4 a5 : Value) (x : World) : Prop := x.heap[R]? = some (.cells #[a0, a1, a2, a3, a4, a5] T (0, 0))
section
variable {R : Nat} {T : TypeId} {a0 a1 a2 a3 a4 a5 : Value} {x y : World}
theorem C6.lt (h : C6 R T a0 a1 a2 a3 a4 a5 x) : R < x.heap.size := (Array.getElem?_eq_some_iff.1 h).1
theorem C6.cells (h : C6 R T a0 a1 a2 a3 a4 a5 x) : x.cell? ⟨R, 0, none⟩ = some a0 ∧ x.cell? ⟨R, 1, none⟩ = some a1 ∧ x.cell? ⟨R, 2, none⟩ = some a2 ∧ x.cell? ⟨R, 3, none⟩ = some a3 ∧ x.cell? ⟨R, 4, none⟩ = some a4 ∧ x.cell? ⟨R, 5, none⟩ = some a5 :=
  ⟨by rw [Lib.cell_of_heap h]; rfl, by rw [Lib.cell_of_heap h]; rfl, by rw [Lib.cell_of_heap h]; rfl, by rw [Lib.cell_of_heap h]; rfl, by rw [Lib.cell_of_heap h]; rfl, by rw [Lib.cell_of_heap h]; rfl⟩
theorem C6.free (h : C6 R T a0 a1 a2 a3 a4 a5 x) : x.frozen? ⟨R, 0, none⟩ = false ∧ x.frozen? ⟨R, 1, none⟩ = false ∧ x.frozen? ⟨R, 2, none⟩ = false ∧ x.frozen? ⟨R, 3, none⟩ = false ∧ x.frozen? ⟨R, 4, none⟩ = false ∧ x.frozen? ⟨R, 5, none⟩ = false := ⟨Lib.frozen_of_heap h 0, Lib.frozen_of_heap h 1, Lib.frozen_of_heap h 2, Lib.frozen_of_heap h 3, Lib.frozen_of_heap h 4, Lib.frozen_of_heap h 5⟩
theorem C6.on (h : C6 R T a0 a1 a2 a3 a4 a5 x) (hb : Below x.heap.size x y) : C6 R T a0 a1 a2 a3 a4 a5 y := (hb.block R h.lt).trans h
theorem C6.turn {F : Nat → Prop} (h : C6 R T a0 a1 a2 a3 a4 a5 x) (ht : Turns F x y) (hF : ¬ F R) : C6 R T a0 a1 a2 a3 a4 a5 y := ht.heap h hF
theorem C6.new (x : World) (T : TypeId) (a0 a1 a2 a3 a4 a5 : Value) : C6 x.heap.size T a0 a1 a2 a3 a4 a5 (x.alloc (.cells #[a0, a1, a2, a3, a4, a5] T)) := heap_alloc_new x _
end
/-- A row of things; it and what they hold lie apart from the blocks of X. -/
def RowX {α : Type} (E : Elt α) (X : Nat → Prop) (w : World) (B : Nat) (T : TypeId) (v : Value) (l : List α) : Prop :=
  (∀ k, v.ownBlock = some k → ¬ X k) ∧ ∃ vs, w.ownsRow B T E.c v l.length (cellsV vs) ∧ vs.length = l.length ∧
    ∀ (i : Nat) (a : α) (u : Value), l[i]? = some a → vs[i]? = some u → E.is (fun g => B ≤ g ∧ v.ownBlock ≠ some g ∧ ¬ X g) w a u
section
variable {α : Type} {E : Elt α} {X : Nat → Prop} {w x : World} {B : Nat} {T : TypeId} {v : Value} {l : List α}
theorem RowX.nil (E : Elt α) (X : Nat → Prop) (w : World) (B : Nat) (T : TypeId) : RowX E X w B T (.slice none 0 0) ([] : List α) :=
  ⟨fun k hk => (by cases hk), [], World.ownsRow_nil _ _ _ _, rfl, fun i a u h => by simp at h⟩
theorem RowX.turn (h : RowX E X w B T v l) {F : Nat → Prop} (ht : Turns F w x) (hF : ∀ g, B ≤ g → g < w.heap.size → F g → X g) : RowX E X x B T v l := by
  obtain ⟨h0, vs, h1, h2, h3⟩ := h
  refine ⟨h0, vs, own_turn h1 ht fun k hk hf => ?_, h2, fun i a u hi hu => E.turn (h3 i a u hi hu) ht (fun g hg hl hf => hg.2.2 (hF g hg.1 hl hf)) fun _ h _ => h⟩
  have := h1.lt k hk
  exact h0 k hk (hF k this.1 this.2 hf)
theorem RowX.below (h : RowX E X w B T v l) (hb : Below w.heap.size w x) : RowX E X x B T v l := h.turn (Turns.of_below (F := fun _ => False) hb) fun _ _ _ h => h.elim
/-- Apart from other blocks, which are new. -/
theorem RowX.widen {X' : Nat → Prop} (h : RowX E X w B T v l) (hX : ∀ g, B ≤ g → g < w.heap.size → X' g → X g) : RowX E X' w B T v l := by
  obtain ⟨h0, vs, h1, h2, h3⟩ := h
  refine ⟨fun k hk hx => ?_, vs, h1, h2, fun i a u hi hu => Elt.mono (h3 i a u hi hu) fun g hg hl => ⟨hg.1, hg.2.1, fun hx => hg.2.2 (hX g hg.1 hl hx)⟩⟩
  have := h1.lt k hk
  exact h0 k hk (hX k this.1 this.2 hx)
theorem RowX.rows (h : RowX E X w B T v l) : RowS E w B T v l := by
  obtain ⟨-, vs, h1, h2, h3⟩ := h
  exact ⟨vs, h1, h2, fun i a u hi hu => Elt.mono (h3 i a u hi hu) fun g hg _ => ⟨hg.1, hg.2.1⟩⟩
theorem RowX.slice (h : RowX E X w B T v l) : ∃ ao cap, v = .slice ao l.length cap := h.rows.slice
theorem RowX.own_lt (h : RowX E X w B T v l) {k : Nat} (hk : v.ownBlock = some k) : B ≤ k ∧ k < w.heap.size := h.rows.own_lt hk
/-- A new row of one. -/
theorem RowX.one {C g : Nat} {a : α} {u : Value} {cap : Nat} (hu : E.is (fun g => C ≤ g ∧ ¬ X g) w a u) (ho : x.ownsRow B T E.c (.slice (some ⟨g, 0, none⟩) 1 cap) 1 u.cells.toList)
    (hx : Below w.heap.size w x) (hg : w.heap.size ≤ g) (hB : B ≤ C) (hX : ¬ X g) : RowX E X x B T (.slice (some ⟨g, 0, none⟩) 1 cap) [a] := by
  refine ⟨fun k hk => by obtain rfl : g = k := Option.some.inj hk; exact hX, [u], by rw [cellsV_one]; exact ho, rfl, fun i a' u' hi hu' => ?_⟩
  match i with
  | 0 =>
    obtain rfl : a = a' := by simpa using hi
    obtain rfl : u = u' := by simpa using hu'
    refine E.turn hu (Turns.of_below (F := fun _ => False) hx) (fun _ _ _ h => h) fun k hk hl => ⟨Nat.le_trans hB hk.1, fun e => ?_, hk.2⟩
    have : g = k := Option.some.inj e
    omega
  | i + 1 => simp at hi
/-- Behind an append of one more. -/
theorem RowX.grow {C : Nat} {v' : Value} {a : α} {u : Value} (h : RowX E X w B T v l) (hu : E.is (fun g => C ≤ g ∧ ¬ X g) w a u) (hC : ∀ g, C ≤ g → g < w.heap.size → B ≤ g ∧ v.ownBlock ≠ some g) (hXn : ∀ g, w.heap.size ≤ g → ¬ X g)
    (vs : List Value) (h2 : vs.length = l.length) (h3 : ∀ (i : Nat) (a : α) (u : Value), l[i]? = some a → vs[i]? = some u → E.is (fun g => B ≤ g ∧ v.ownBlock ≠ some g ∧ ¬ X g) w a u)
    (ho : x.ownsRow B T E.c v' (l.length + 1) (cellsV vs ++ u.cells.toList)) (hg : w.grownBy x v.ownBlock) (hn : NewRow w v v') : RowX E X x B T v' (l ++ [a]) := by
  have ht : Turns (fun k => v.ownBlock = some k) w x := Turns.of_grown hg fun k hk => hk
  have key : ∀ g, B ≤ g → v.ownBlock ≠ some g → g < w.heap.size → v'.ownBlock ≠ some g := fun g _ h4 h5 h6 => by
    rcases hn g h6 with h7 | h7
    · exact h4 h7
    · omega
  refine ⟨fun k hk => ?_, vs ++ [u], ?_, by simp [h2], fun i b z hi hz => ?_⟩
  · rcases hn k hk with h7 | h7
    · exact h.1 k h7
    · exact hXn k h7
  · rw [List.length_append, cellsV_append, cellsV_one]
    exact ho
  · by_cases hlt : i < l.length
    · rw [List.getElem?_append_left hlt] at hi
      rw [List.getElem?_append_left (by omega)] at hz
      exact E.turn (h3 i b z hi hz) ht (fun g hg _ => hg.2.1) fun g hg hl => ⟨hg.1, key g hg.1 hg.2.1 hl, hg.2.2⟩
    · rw [List.getElem?_append_right (by omega)] at hi
      rw [List.getElem?_append_right (by omega), h2] at hz
      have e : i - l.length = 0 := by
        have := (List.getElem?_eq_some_iff.1 hi).1
        simp at this; omega
      rw [e] at hi hz
      obtain rfl : a = b := by simpa using hi
      obtain rfl : u = z := by simpa using hz
      exact E.turn hu ht (fun g hg hl => (hC g hg.1 hl).2) fun g hg hl => ⟨(hC g hg.1 hl).1, key g (hC g hg.1 hl).1 (hC g hg.1 hl).2 hl, hg.2⟩
/-- One more behind a row. -/
theorem RowX.add {P : Program} {t e : TypeId} {i : TypeInfo} {z : Value} {by' : Nat} (T : IsElem P t e i z E.c by') (hby : by' ≤ 300) (ty : TypeId) {C g : Nat} {cap : Nat} {a : α} {u : Value} (h : RowX E X w B e v l)
    (hg : w.heap[g]? = some (.cells u.cells e (0, 0))) (hu : E.is (fun g => C ≤ g ∧ ¬ X g) w a u) (hC : B ≤ C) (hlt : ∀ k, v.ownBlock = some k → k < C) (hw : B ≤ w.heap.size) (hXn : ∀ g, w.heap.size ≤ g → ¬ X g) (hz : l.length ≤ 100000) :
    ∃ v' y, (Builtin.append_ #[t, t] ty #[v, .slice (some ⟨g, 0, none⟩) 1 cap]).run P w = .ok v' y ∧ RowX E X y B e v' (l ++ [a]) ∧ Turns (fun k => v.ownBlock = some k) w y := by
  obtain ⟨h0, vs, h1, h2, h3⟩ := h
  have hc := E.cells hu
  obtain ⟨v', y, hr, ho, hgr, hn⟩ := append_rows T ty h1 hw (m := 1) (news := u.cells.toList) (ad := ⟨g, 0, none⟩) (c := cap) (by rw [Array.length_toList, hc, Nat.one_mul])
    (fun j q hj => by rw [Tr.addp, Nat.zero_add, Lib.cell_of_heap hg]; simpa using hj) (E.one hu) (by omega) (Nat.le_trans (Nat.mul_le_mul_left _ hby) (by omega))
  exact ⟨v', y, hr, RowX.grow (C := C) ⟨h0, vs, h1, h2, h3⟩ hu (fun k hk _ => ⟨Nat.le_trans hC hk, fun e => by have := hlt k e; omega⟩) hXn vs h2 h3 ho hgr hn, Turns.of_grown hgr fun k hk => hk⟩
/-- For the walk. -/
theorem walk_add {P : Program} {t e : TypeId} {i : TypeInfo} {z : Value} {by' : Nat} {ops : Array Oper} {Q : Exit → Act → World → Prop} {o : Oper} {rest : List Oper} {b : Act} (T : IsElem P t e i z E.c by') (hby : by' ≤ 300) (hgd : o.guard = none) (s q : Operand)
    (ho : o.op = .call { callee := .builtin .append, args := #[s, q], argTypes := #[t, t] }) {C g : Nat} {cap : Nat} {a : α} {u : Value} (hs : b.eval s = v) (hx : b.eval q = .slice (some ⟨g, 0, none⟩) 1 cap) (h : RowX E X w B e v l)
    (hg : w.heap[g]? = some (.cells u.cells e (0, 0))) (hu : E.is (fun g => C ≤ g ∧ ¬ X g) w a u) (hC : B ≤ C) (hlt : ∀ k, v.ownBlock = some k → k < C) (hw : B ≤ w.heap.size) (hXn : ∀ g, w.heap.size ≤ g → ¬ X g) (hz : l.length ≤ 100000)
    (k : ∀ v' y, RowX E X y B e v' (l ++ [a]) → Turns (fun k => v.ownBlock = some k) w y → wpList P ops Q rest (b.put o.dst v') y) : wpList P ops Q (o :: rest) b w := by
  refine wpList_plain hgd fun K hK => ?_
  obtain ⟨v', y, hr, h3, h4⟩ := RowX.add T hby o.type h hg hu hC hlt hw hXn hz (cap := cap)
  unfold Oper.wp execOp
  simp only [ho, resolve, invoke, builtin, Sem.run_bind, Sem.run_pure, Result.andThen_ok, List.map_toArray, List.map_cons, List.map_nil, hs, hx, hr]
  exact hK _ _ (k v' y h3 h4)
end
end Ck
end Go.Proofs.YtopncohhagebbaaDoor
