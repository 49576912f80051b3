/-
  Layer 7's document: rows of things that lie apart from some blocks; one more thing behind a row.
-/
import Derived.Test.YtbphmaoomnocmaaDoorGrDx
namespace Go.Proofs.YtbphmaoomnocmaaDoor
open Go.RowKit
namespace Gr
open Knot (Turns NewRow)
open Tr (Nd none0 node4 own_slice Box4 IsElem append_rows own_turn)
open Sg (Tok kt TokAt txt)

/-- A row of things; it and what they hold lie apart from the blocks of X. -/
def RowX {α : Type} (E : Elt α) (X : Nat → Prop) (w : World) (B : Nat) (T : TypeId) (v : Value) (l : List α) : Prop :=
  (∀ k, v.ownBlock = some k → ¬ X k) ∧ ∃ vs, w.ownsRow B T E.c v l.length (cellsV vs) ∧ vs.length = l.length ∧
    ∀ (i : Nat) (a : α) (u : Value), l[i]? = some a → vs[i]? = some u → E.is (fun g => B ≤ g ∧ v.ownBlock ≠ some g ∧ ¬ X g) w a u
section
variable {α : Type} {E : Elt α} {X : Nat → Prop} {w x : World} {B : Nat} {T : TypeId} {v : Value} {l : List α}
theorem RowX.nil (E : Elt α) (X : Nat → Prop) (w : World) (B : Nat) (T : TypeId) : RowX E X w B T (.slice none 0 0) ([] : List α) :=
  ⟨fun k hk => (by cases hk), [], World.ownsRow_nil _ _ _ _, rfl, fun i a u h => by simp at h⟩
theorem RowX.turn (h : RowX E X w B T v l) {F : Nat → Prop} (ht : Turns F w x) (hF : ∀ g, B ≤ g → g < w.heap.size → F g → X g) : RowX E X x B T v l := by
  obtain ⟨h0, vs, h1, h2, h3⟩ := h
  refine ⟨h0, vs, own_turn h1 ht fun k hk hf => ?_, h2, fun i a u hi hu => E.turn (h3 i a u hi hu) ht (fun g hg hl hf => hg.2.2 (hF g hg.1 hl hf)) fun _ h _ => h⟩
  have := h1.lt k hk
  exact h0 k hk (hF k this.1 this.2 hf)
theorem RowX.below (h : RowX E X w B T v l) (hb : Below w.heap.size w x) : RowX E X x B T v l := h.turn (Turns.of_below (F := fun _ => False) hb) fun _ _ _ h => h.elim
/-- Apart from other blocks, which are new. -/
theorem RowX.widen {X' : Nat → Prop} (h : RowX E X w B T v l) (hX : ∀ g, B ≤ g → g < w.heap.size → X' g → X g) : RowX E X' w B T v l := by
  obtain ⟨h0, vs, h1, h2, h3⟩ := h
  refine ⟨fun k hk hx => ?_, vs, h1, h2, fun i a u hi hu => Elt.mono (h3 i a u hi hu) fun g hg hl => ⟨hg.1, hg.2.1, fun hx => hg.2.2 (hX g hg.1 hl hx)⟩⟩
  have := h1.lt k hk
  exact h0 k hk (hX k this.1 this.2 hx)
theorem RowX.rows (h : RowX E X w B T v l) : RowS E w B T v l := by
  obtain ⟨-, vs, h1, h2, h3⟩ := h
  exact ⟨vs, h1, h2, fun i a u hi hu => Elt.mono (h3 i a u hi hu) fun g hg _ => ⟨hg.1, hg.2.1⟩⟩
theorem RowX.slice (h : RowX E X w B T v l) : ∃ ao cap, v = .slice ao l.length cap := h.rows.slice
theorem RowX.own_lt (h : RowX E X w B T v l) {k : Nat} (hk : v.ownBlock = some k) : B ≤ k ∧ k < w.heap.size := h.rows.own_lt hk
/-- A new row of one. -/
theorem RowX.one {C g : Nat} {a : α} {u : Value} {cap : Nat} (hu : E.is (fun g => C ≤ g ∧ ¬ X g) w a u) (ho : x.ownsRow B T E.c (.slice (some ⟨g, 0, none⟩) 1 cap) 1 u.cells.toList)
    (hx : Below w.heap.size w x) (hg : w.heap.size ≤ g) (hB : B ≤ C) (hX : ¬ X g) : RowX E X x B T (.slice (some ⟨g, 0, none⟩) 1 cap) [a] := by
  refine ⟨fun k hk => by obtain rfl : g = k := Option.some.inj hk; exact hX, [u], by rw [cellsV_one]; exact ho, rfl, fun i a' u' hi hu' => ?_⟩
  match i with
  | 0 =>
    obtain rfl : a = a' := by simpa using hi
    obtain rfl : u = u' := by simpa using hu'
    refine E.turn hu (Turns.of_below (F := fun _ => False) hx) (fun _ _ _ h => h) fun k hk hl => ⟨Nat.le_trans hB hk.1, fun e => ?_, hk.2⟩
    have : g = k := Option.some.inj e
    omega
  | i + 1 => simp at hi
/-- Behind an append of one more. -/
theorem RowX.grow {C : Nat} {v' : Value} {a : α} {u : Value} (h : RowX E X w B T v l) (hu : E.is (fun g => C ≤ g ∧ ¬ X g) w a u) (hC : ∀ g, C ≤ g → g < w.heap.size → B ≤ g ∧ v.ownBlock ≠ some g) (hXn : ∀ g, w.heap.size ≤ g → ¬ X g)
    (vs : List Value) (h2 : vs.length = l.length) (h3 : ∀ (i : Nat) (a : α) (u : Value), l[i]? = some a → vs[i]? = some u → E.is (fun g => B ≤ g ∧ v.ownBlock ≠ some g ∧ ¬ X g) w a u)
    (ho : x.ownsRow B T E.c v' (l.length + 1) (cellsV vs ++ u.cells.toList)) (hg : w.grownBy x v.ownBlock) (hn : NewRow w v v') : RowX E X x B T v' (l ++ [a]) := by
  have ht : Turns (fun k => v.ownBlock = some k) w x := Turns.of_grown hg fun k hk => hk
  have key : ∀ g, B ≤ g → v.ownBlock ≠ some g → g < w.heap.size → v'.ownBlock ≠ some g := fun g _ h4 h5 h6 => by
    rcases hn g h6 with h7 | h7
    · exact h4 h7
    · omega
  refine ⟨fun k hk => ?_, vs ++ [u], ?_, by simp [h2], fun i b z hi hz => ?_⟩
  · rcases hn k hk with h7 | h7
    · exact h.1 k h7
    · exact hXn k h7
  · rw [List.length_append, cellsV_append, cellsV_one]
    exact ho
  · by_cases hlt : i < l.length
    · rw [List.getElem?_append_left hlt] at hi
      rw [List.getElem?_append_left (by omega)] at hz
      exact E.turn (h3 i b z hi hz) ht (fun g hg _ => hg.2.1) fun g hg hl => ⟨hg.1, key g hg.1 hg.2.1 hl, hg.2.2⟩
    · rw [List.getElem?_append_right (by omega)] at hi
      rw [List.getElem?_append_right (by omega), h2] at hz
      have e : i - l.length = 0 := by
        have := (List.getElem?_eq_some_iff.1 hi).1
        simp at this; omega
      rw [e] at hi hz
      obtain rfl : a = b := by simpa using hi
      obtain rfl : u = z := by simpa using hz
      exact E.turn hu ht (fun g hg hl => (hC g hg.1 hl).2) fun g hg hl => ⟨(hC g hg.1 hl).1, key g (hC g hg.1 hl).1 (hC g hg.1 hl).2 hl, hg.2⟩
/-- One more behind a row. -/
theorem RowX.add {P : Program} {t e : TypeId} {i : TypeInfo} {z : Value} {by' : Nat} (T : IsElem P t e i z E.c by') (hby : by' ≤ 300) (ty : TypeId) {C g : Nat} {cap : Nat} {a : α} {u : Value} (h : RowX E X w B e v l)
    (hg : w.heap[g]? = some (.cells u.cells e (0, 0))) (hu : E.is (fun g => C ≤ g ∧ ¬ X g) w a u) (hC : B ≤ C) (hlt : ∀ k, v.ownBlock = some k → k < C) (hw : B ≤ w.heap.size) (hXn : ∀ g, w.heap.size ≤ g → ¬ X g) (hz : l.length ≤ 100000) :
    ∃ v' y, (Builtin.append_ #[t, t] ty #[v, .slice (some ⟨g, 0, none⟩) 1 cap]).run P w = .ok v' y ∧ RowX E X y B e v' (l ++ [a]) ∧ Turns (fun k => v.ownBlock = some k) w y := by
  obtain ⟨h0, vs, h1, h2, h3⟩ := h
  have hc := E.cells hu
  obtain ⟨v', y, hr, ho, hgr, hn⟩ := append_rows T ty h1 hw (m := 1) (news := u.cells.toList) (ad := ⟨g, 0, none⟩) (c := cap) (by rw [Array.length_toList, hc, Nat.one_mul])
    (fun j q hj => by rw [Tr.addp, Nat.zero_add, Lib.cell_of_heap hg]; simpa using hj) (E.one hu) (by omega) (Nat.le_trans (Nat.mul_le_mul_left _ hby) (by omega))
  exact ⟨v', y, hr, RowX.grow (C := C) ⟨h0, vs, h1, h2, h3⟩ hu (fun k hk _ => ⟨Nat.le_trans hC hk, fun e => by have := hlt k e; omega⟩) hXn vs h2 h3 ho hgr hn, Turns.of_grown hgr fun k hk => hk⟩
/-- For the walk. -/
theorem walk_add {P : Program} {t e : TypeId} {i : TypeInfo} {z : Value} {by' : Nat} {ops : Array Oper} {Q : Exit → Act → World → Prop} {o : Oper} {rest : List Oper} {b : Act} (T : IsElem P t e i z E.c by') (hby : by' ≤ 300) (hgd : o.guard = none) (s q : Operand)
    (ho : o.op = .call { callee := .builtin .append, args := #[s, q], argTypes := #[t, t] }) {C g : Nat} {cap : Nat} {a : α} {u : Value} (hs : b.eval s = v) (hx : b.eval q = .slice (some ⟨g, 0, none⟩) 1 cap) (h : RowX E X w B e v l)
    (hg : w.heap[g]? = some (.cells u.cells e (0, 0))) (hu : E.is (fun g => C ≤ g ∧ ¬ X g) w a u) (hC : B ≤ C) (hlt : ∀ k, v.ownBlock = some k → k < C) (hw : B ≤ w.heap.size) (hXn : ∀ g, w.heap.size ≤ g → ¬ X g) (hz : l.length ≤ 100000)
    (k : ∀ v' y, RowX E X y B e v' (l ++ [a]) → Turns (fun k => v.ownBlock = some k) w y → wpList P ops Q rest (b.put o.dst v') y) : wpList P ops Q (o :: rest) b w := by
  refine wpList_plain hgd fun K hK => ?_
  obtain ⟨v', y, hr, h3, h4⟩ := RowX.add T hby o.type h hg hu hC hlt hw hXn hz (cap := cap)
  unfold Oper.wp execOp
  simp only [ho, resolve, invoke, builtin, Sem.run_bind, Sem.run_pure, Result.andThen_ok, List.map_toArray, List.map_cons, List.map_nil, hs, hx, hr]
  exact hK _ _ (k v' y h3 h4)
end
/-- What the loops of meet and Union keep. -/
structure Dm (c : DCtx) (o : Nat) (x : World) (p : P) (k : Int) (r : List Nd × St) (R4 : Nat) (v : Value) (l : List Nd) (si : St) (m : Nd) (mo : Option Addr) (mc : Nat) (w : World) : Prop where
  b0 : C4 x.heap.size tSt (.slice c.ao c.L.length c.cap) (.int .i64 (atN c si : Nat)) (.int .i64 (o : Nat)) (.int .i64 (si.err : Nat)) w
  b1 : C4 (x.heap.size + 1) tSt (.slice none 0 0) (.int .i64 0) (.int .i64 0) (.int .i64 0) w
  b2 : C4 (x.heap.size + 1 + 1) tNd (.int .i64 0) (.string ⟨#[]⟩) (.string ⟨#[]⟩) (.slice none 0 0) w
  b4 : C4 R4 tNd (.int .i64 m.kind) (.string m.ta) (.string m.tb) (.slice mo m.kids.length mc) w
  node : NodeS (fun g => x.heap.size + 3 ≤ g ∧ g ≠ R4) w m (node4 m.kind m.ta m.tb (.slice mo m.kids.length mc))
  below : Below x.heap.size x w
  row : RowX nodeE (fun g => g = R4) w (x.heap.size + 3) tNd v l
  low : x.heap.size + 3 ≤ R4
  suf : si.rest <:+ kt c.L
  more : (l ++ (eachs p k si).1, (eachs p k si).2) = r
  last : l ≠ [] ∧ (l.length = 1 → l = [m])
  len : l.length + si.rest.length ≤ 10001
end Gr
end Go.Proofs.YtbphmaoomnocmaaDoor
