/-
  Layer 7 (grammar): things that lie in memory, the lists that they hold in blocks of a kind; rows of such things.
-/
import Derived.Test.YtbphmaoomnocmaaDoorNdMem
import Derived.Test.YtbphmaoomnocmaaDoorRows2
namespace Go.Proofs.YtbphmaoomnocmaaDoor
open Go.RowKit
namespace Gr
open Knot (Turns NewRow)
open Tr (Nd none0 RowAt node4 IsNode IsNodes size sizes size_pos sizes_mem own_turn own_slice)

mutual
/-- A node that lies in memory, its lists in blocks of S. -/
def NodeS (S : Nat → Prop) (w : World) : Nd → Value → Prop
  | .mk k a b l, v => ∃ ao cap vs, v = node4 k a b (.slice ao l.length cap) ∧ (a.size ≤ maxLen ∧ b.size ≤ maxLen) ∧ (l ≠ [] → ∃ g o, ao = some ⟨g, o, none⟩ ∧ S g ∧ RowAt w 4 g o vs) ∧ NodesS S w l vs
def NodesS (S : Nat → Prop) (w : World) : List Nd → List Value → Prop
  | [], vs => vs = []
  | n :: r, vs => ∃ v vr, vs = v :: vr ∧ NodeS S w n v ∧ NodesS S w r vr
end
theorem NodesS.len {S : Nat → Prop} {w : World} : ∀ {l : List Nd} {vs : List Value}, NodesS S w l vs → vs.length = l.length
  | [], vs, h => by rw [NodesS] at h; rw [h]; rfl
  | n :: r, vs, h => by
    rw [NodesS] at h
    obtain ⟨v, vr, rfl, -, hr⟩ := h
    rw [List.length_cons, List.length_cons, NodesS.len hr]
theorem NodesS.at {S : Nat → Prop} {w : World} : ∀ {l : List Nd} {vs : List Value}, NodesS S w l vs → ∀ {i : Nat} (h : i < l.length), ∃ v, vs[i]? = some v ∧ NodeS S w l[i] v
  | n :: r, vs, h, i, hi => by
    rw [NodesS] at h
    obtain ⟨v, vr, rfl, hn, hr⟩ := h
    match i, hi with
    | 0, _ => exact ⟨v, rfl, hn⟩
    | i + 1, hi =>
      obtain ⟨u, hu, hn'⟩ := NodesS.at hr (i := i) (by simpa using hi)
      exact ⟨u, by simpa using hu, by simpa using hn'⟩
theorem NodesS.of {S : Nat → Prop} {w : World} : ∀ {l : List Nd} {vs : List Value}, vs.length = l.length → (∀ (i : Nat) (h : i < l.length) (v : Value), vs[i]? = some v → NodeS S w l[i] v) → NodesS S w l vs
  | [], vs, hl, _ => by rw [NodesS]; exact List.eq_nil_of_length_eq_zero hl
  | n :: r, [], hl, _ => by simp at hl
  | n :: r, v :: vr, hl, h => by
    rw [NodesS]
    refine ⟨v, vr, rfl, h 0 (by simp) v rfl, NodesS.of (by simpa using hl) fun i hi u hu => ?_⟩
    have := h (i + 1) (by simpa using hi) u (by simpa using hu)
    simpa using this
theorem row_lt {w : World} {g o : Nat} {vs : List Value} (h : RowAt w 4 g o vs) (hv : vs ≠ []) : g < w.heap.size := by
  match vs, hv with
  | v :: r, _ =>
    obtain ⟨h1, h2⟩ := h 0 v rfl
    have h0 : v.cells[0]? = some (v.cells[0]'(by omega)) := Array.getElem?_eq_getElem (by omega)
    exact World.block_lt_of_cell? w _ (h2 0 _ h0)
theorem NodeS.on {S S' : Nat → Prop} {w x : World} (hS : ∀ g, S g → g < w.heap.size → S' g) (hr : ∀ g o vs, S g → RowAt w 4 g o vs → RowAt x 4 g o vs) : ∀ (k : Nat) (n : Nd) (v : Value), size n ≤ k → NodeS S w n v → NodeS S' x n v
  | 0, n, _, h, _ => by have := size_pos n; omega
  | k + 1, .mk q a b l, v, h, hn => by
    rw [NodeS] at hn ⊢
    obtain ⟨ao, cap, vs, rfl, hs, hrow, hk⟩ := hn
    refine ⟨ao, cap, vs, rfl, hs, fun hl => ?_, ?_⟩
    · obtain ⟨g, o, e, hg, h1⟩ := hrow hl
      have hlt := row_lt h1 (fun e => hl (List.eq_nil_of_length_eq_zero (by have := hk.len; rw [e] at this; exact this.symm)))
      exact ⟨g, o, e, hS g hg hlt, hr _ _ _ hg h1⟩
    · refine NodesS.of hk.len fun i hi u hu => ?_
      obtain ⟨u', hu', hn'⟩ := hk.at hi
      rw [hu] at hu'
      cases hu'
      refine NodeS.on hS hr k _ _ ?_ hn'
      have := sizes_mem (List.getElem_mem hi)
      rw [size] at h
      omega
theorem NodeS.turn {S S' F : Nat → Prop} {w x : World} {n : Nd} {v : Value} (h : NodeS S w n v) (ht : Turns F w x) (hF : ∀ g, S g → g < w.heap.size → ¬ F g) (hS : ∀ g, S g → g < w.heap.size → S' g) : NodeS S' x n v := by
  have h2 : NodeS (fun g => S g ∧ g < w.heap.size) w n v := NodeS.on (fun g a b => ⟨a, b⟩) (fun _ _ _ _ h => h) (size n) n v (Nat.le_refl _) h
  exact NodeS.on (fun g a _ => hS g a.1 a.2) (fun g _ _ a h => h.turn ht (hF g a.1 a.2)) (size n) n v (Nat.le_refl _) h2
theorem NodeS.is {S : Nat → Prop} {w : World} : ∀ (k : Nat) {n : Nd} {v : Value}, size n ≤ k → NodeS S w n v → IsNode w n v
  | 0, n, _, h, _ => by have := size_pos n; omega
  | k + 1, .mk q a b l, v, h, hn => by
    rw [NodeS] at hn
    obtain ⟨ao, cap, vs, rfl, hs, hrow, hk⟩ := hn
    rw [IsNode]
    refine ⟨ao, cap, vs, rfl, hs, fun hl => ?_, ?_⟩
    · obtain ⟨g, o, e, -, h1⟩ := hrow hl
      exact ⟨g, o, e, h1⟩
    · refine IsNodes.of hk.len fun i hi u hu => ?_
      obtain ⟨u', hu', hn'⟩ := hk.at hi
      rw [hu] at hu'
      cases hu'
      refine NodeS.is k ?_ hn'
      have := sizes_mem (List.getElem_mem hi)
      rw [size] at h
      omega
theorem NodeS.open {S : Nat → Prop} {w : World} {n : Nd} {v : Value} (h : NodeS S w n v) : ∃ ao cap vs, v = node4 n.kind n.ta n.tb (.slice ao n.kids.length cap) ∧ (n.ta.size ≤ maxLen ∧ n.tb.size ≤ maxLen) ∧ (n.kids ≠ [] → ∃ g o, ao = some ⟨g, o, none⟩ ∧ S g ∧ RowAt w 4 g o vs) ∧ NodesS S w n.kids vs := by
  cases n
  rw [NodeS] at h
  exact h

/-! ### things of one kind -/
/-- A kind of things: how many cells one has, when one lies in memory. -/
structure Elt (α : Type) where
  c : Nat
  pos : 0 < c
  is : (Nat → Prop) → World → α → Value → Prop
  cells : ∀ {S w a v}, is S w a v → v.cells.size = c
  one : ∀ {S w a v}, is S w a v → ∀ u ∈ v.cells.toList, u.oneCell' = true
  turn : ∀ {S S' F w x a v}, is S w a v → Turns F w x → (∀ g, S g → g < w.heap.size → ¬ F g) → (∀ g, S g → g < w.heap.size → S' g) → is S' x a v
section
variable {α : Type} {E : Elt α}
theorem Elt.below {S : Nat → Prop} {w x : World} {a : α} {v : Value} (h : E.is S w a v) (hb : Below w.heap.size w x) : E.is S x a v := E.turn h (Turns.of_below (F := fun _ => False) hb) (fun _ _ _ h => h) fun _ h _ => h
theorem Elt.mono {S S' : Nat → Prop} {w : World} {a : α} {v : Value} (h : E.is S w a v) (hS : ∀ g, S g → g < w.heap.size → S' g) : E.is S' w a v := E.turn h (Turns.refl (fun _ => False) w) (fun _ _ _ h => h) hS
def cellsV (vs : List Value) : List Value := vs.flatMap fun v => v.cells.toList
theorem cellsV_append (a b : List Value) : cellsV (a ++ b) = cellsV a ++ cellsV b := List.flatMap_append
theorem cellsV_one (v : Value) : cellsV [v] = v.cells.toList := by simp [cellsV]
/-- A row of such things that a call owns; what they hold lies elsewhere. -/
def RowS (E : Elt α) (w : World) (B : Nat) (T : TypeId) (v : Value) (l : List α) : Prop :=
  ∃ vs, w.ownsRow B T E.c v l.length (cellsV vs) ∧ vs.length = l.length ∧ ∀ (i : Nat) (a : α) (u : Value), l[i]? = some a → vs[i]? = some u → E.is (fun g => B ≤ g ∧ v.ownBlock ≠ some g) w a u
theorem RowS.nil (E : Elt α) (w : World) (B : Nat) (T : TypeId) : RowS E w B T (.slice none 0 0) ([] : List α) :=
  ⟨[], World.ownsRow_nil _ _ _ _, rfl, fun i a u h => by simp at h⟩
theorem RowS.own_lt {w : World} {B : Nat} {T : TypeId} {v : Value} {l : List α} (h : RowS E w B T v l) {k : Nat} (hk : v.ownBlock = some k) : B ≤ k ∧ k < w.heap.size := by
  obtain ⟨vs, h1, -, -⟩ := h
  exact h1.lt k hk
theorem RowS.turn {w x : World} {B : Nat} {T : TypeId} {v : Value} {l : List α} (h : RowS E w B T v l) {F : Nat → Prop} (ht : Turns F w x) (hF : ∀ g, B ≤ g → g < w.heap.size → ¬ F g) : RowS E x B T v l := by
  obtain ⟨vs, h1, h2, h3⟩ := h
  refine ⟨vs, own_turn h1 ht fun k hk => ?_, h2, fun i a u hi hu => E.turn (h3 i a u hi hu) ht (fun g hg hlt => hF g hg.1 hlt) fun _ h _ => h⟩
  have := h1.lt k hk
  exact hF k this.1 this.2
theorem RowS.below {w x : World} {B : Nat} {T : TypeId} {v : Value} {l : List α} (h : RowS E w B T v l) (hb : Below w.heap.size w x) : RowS E x B T v l := h.turn (Turns.of_below (F := fun _ => False) hb) fun _ _ _ h => h
theorem RowS.mono {w : World} {B C : Nat} {T : TypeId} {v : Value} {l : List α} (h : RowS E w B T v l) (hC : C ≤ B) : RowS E w C T v l := by
  obtain ⟨vs, h1, h2, h3⟩ := h
  refine ⟨vs, ⟨h1.1, ?_⟩, h2, fun i a u hi hu => Elt.mono (h3 i a u hi hu) fun g hg _ => ⟨Nat.le_trans hC hg.1, hg.2⟩⟩
  rcases h1.2 with h | ⟨g, cap, cur, hv, hb, r⟩
  · exact .inl h
  · exact .inr ⟨g, cap, cur, hv, Nat.le_trans hC hb, r⟩
theorem RowS.slice {w : World} {B : Nat} {T : TypeId} {v : Value} {l : List α} (h : RowS E w B T v l) : ∃ ao cap, v = .slice ao l.length cap := by
  obtain ⟨vs, h1, -, -⟩ := h
  exact own_slice h1
theorem cellsV_len {w : World} {vs : List Value} {l : List α} {f : Nat → Prop} (hl : vs.length = l.length) (h : ∀ (i : Nat) (a : α) (u : Value), l[i]? = some a → vs[i]? = some u → E.is f w a u) : ∀ u ∈ vs, u.cells.size = E.c := by
  intro u hu
  obtain ⟨i, hi, rfl⟩ := List.getElem_of_mem hu
  exact E.cells (h i (l[i]'(by omega)) _ (List.getElem?_eq_getElem _) (List.getElem?_eq_getElem _))
/-- Behind an append of other such things: the row is the old one or a new one. -/
theorem RowS.grow {w x : World} {B C : Nat} {T : TypeId} {v v' : Value} {l m : List α} {vs us : List Value} (h2 : vs.length = l.length)
    (h3 : ∀ (i : Nat) (a : α) (u : Value), l[i]? = some a → vs[i]? = some u → E.is (fun g => B ≤ g ∧ v.ownBlock ≠ some g) w a u) (hlen : us.length = m.length)
    (hm : ∀ (i : Nat) (a : α) (u : Value), m[i]? = some a → us[i]? = some u → E.is (fun g => C ≤ g) w a u) (hC : ∀ g, C ≤ g → g < w.heap.size → B ≤ g ∧ v.ownBlock ≠ some g)
    (ho : x.ownsRow B T E.c v' (l.length + m.length) (cellsV vs ++ cellsV us)) (hg : w.grownBy x v.ownBlock) (hn : NewRow w v v') : RowS E x B T v' (l ++ m) := by
  have ht : Turns (fun k => v.ownBlock = some k) w x := Turns.of_grown hg fun k hk => hk
  have key : ∀ g, B ≤ g → v.ownBlock ≠ some g → g < w.heap.size → v'.ownBlock ≠ some g := fun g _ h4 h5 h6 => by
    rcases hn g h6 with h7 | h7
    · exact h4 h7
    · omega
  refine ⟨vs ++ us, ?_, by simp [h2, hlen], fun i a u hi hu => ?_⟩
  · rw [List.length_append, cellsV_append]
    exact ho
  · by_cases hlt : i < l.length
    · rw [List.getElem?_append_left hlt] at hi
      rw [List.getElem?_append_left (by omega)] at hu
      exact E.turn (h3 i a u hi hu) ht (fun g hg _ => hg.2) fun g hg hl => ⟨hg.1, key g hg.1 hg.2 hl⟩
    · rw [List.getElem?_append_right (by omega)] at hi
      rw [List.getElem?_append_right (by omega), h2] at hu
      exact E.turn (hm _ a u hi hu) ht (fun g hg hl => (hC g hg hl).2) fun g hg hl => ⟨(hC g hg hl).1, key g (hC g hg hl).1 (hC g hg hl).2 hl⟩
/-- A new row of one. -/
theorem RowS.single {w x : World} {B C g : Nat} {T : TypeId} {a : α} {u : Value} {cap : Nat} (hu : E.is (fun g => C ≤ g) w a u) (ho : x.ownsRow B T E.c (.slice (some ⟨g, 0, none⟩) 1 cap) 1 u.cells.toList)
    (hx : Below w.heap.size w x) (hg : w.heap.size ≤ g) (hB : B ≤ C) : RowS E x B T (.slice (some ⟨g, 0, none⟩) 1 cap) [a] := by
  refine ⟨[u], by rw [cellsV_one]; exact ho, rfl, fun i a' u' hi hu' => ?_⟩
  match i with
  | 0 =>
    obtain rfl : a = a' := by simpa using hi
    obtain rfl : u = u' := by simpa using hu'
    refine E.turn hu (Turns.of_below (F := fun _ => False) hx) (fun _ _ _ h => h) fun k hk hl => ⟨Nat.le_trans hB hk, fun e => ?_⟩
    have : g = k := Option.some.inj e
    omega
  | i + 1 => simp at hi
end

/-! ### nodes -/
theorem node_cells {k : Int} {a b : ByteArray} {ao : Option Addr} {n cap : Nat} : (node4 k a b (.slice ao n cap)).cells = #[.int .i64 k, .string a, .string b, .slice ao n cap] := rfl
def nodeE : Elt Nd where
  c := 4
  pos := by decide
  is := NodeS
  cells := fun h => by obtain ⟨ao, cap, vs, rfl, -⟩ := h.open; rfl
  one := fun h u hu => by
    obtain ⟨ao, cap, vs, rfl, -⟩ := h.open
    rw [node_cells] at hu
    simp at hu
    rcases hu with rfl | rfl | rfl | rfl <;> rfl
  turn := fun h ht hF hS => h.turn ht hF hS
end Gr
end Go.Proofs.YtbphmaoomnocmaaDoor
