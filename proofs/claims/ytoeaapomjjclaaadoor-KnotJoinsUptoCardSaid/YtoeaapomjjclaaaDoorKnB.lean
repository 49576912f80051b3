/-
  Layer 4 (knot): what ties bytes, numbers, texts and marks to a knot, and what Bytes answers. What is asked: the library's table of powers of ten.
-/
import Derived.Test.YtoeaapomjjclaaaDoorKn
namespace Go.Proofs.YtoeaapomjjclaaaDoor
open Go.RowKit Go.Sort
namespace Knot

/-- The blocks that a knot reaches: its own, and its bytes' row. -/
def Foot (K : Nat) (v : Value) (k : Nat) : Prop := k = K ∨ v.ownBlock = some k
/-- A knot in block K: v is its slice, l is what it tied. -/
def Kn (B : Nat) (w : World) (K : Nat) (v : Value) (l : List UInt8) : Prop :=
  B ≤ K ∧ w.heap[K]? = some (.cells #[v] 62 (0, 0)) ∧ w.ownsRow B 5 1 v l.length (Lib.byteCells l)
/-- What a call on a knot does. -/
structure KStep (K : Nat) (v v' : Value) (w x : World) : Prop where
  turns : Turns (Foot K v) w x
  new : NewRow w v v'

section
variable {B K : Nat} {w x y : World} {v v' u : Value} {l : List UInt8}
theorem Kn.lt (h : Kn B w K v l) : K < w.heap.size := (Array.getElem?_eq_some_iff.1 h.2.1).1
theorem Kn.base (h : Kn B w K v l) : B ≤ w.heap.size := Nat.le_of_lt (Nat.lt_of_le_of_lt h.1 h.lt)
theorem Kn.own (h : Kn B w K v l) : w.ownsRow B 5 1 v l.length (Lib.byteCells l) := h.2.2
theorem Kn.cell (h : Kn B w K v l) : w.cell? ⟨K, 0, none⟩ = some v := by rw [Lib.cell_of_heap h.2.1]; rfl
theorem Kn.frozen (h : Kn B w K v l) : w.frozen? ⟨K, 0, none⟩ = false := Lib.frozen_of_heap h.2.1 0
theorem Kn.ne (h : Kn B w K v l) : v.ownBlock ≠ some K := fun e => by
  obtain ⟨c, fz, hc⟩ := Lib.ownsRow_kind h.own K e
  have := h.2.1.symm.trans hc
  simp at this
theorem Kn.foot (h : Kn B w K v l) : ∀ k, Foot K v k → B ≤ k ∧ k < w.heap.size := by
  rintro k (rfl | e)
  · exact ⟨h.1, h.lt⟩
  · exact h.own.lt k e
theorem own_turn {b n : Nat} {e : TypeId} {xs : List Value} {F : Nat → Prop} (h : w.ownsRow b e 1 v n xs) (ht : Turns F w x) (hF : ∀ k, v.ownBlock = some k → ¬ F k) : x.ownsRow b e 1 v n xs := by
  refine ⟨h.1, ?_⟩
  rcases h.2 with hn | ⟨g, cap, cur, rfl, hb, hg, r⟩
  · exact .inl hn
  · exact .inr ⟨g, cap, cur, rfl, hb, (ht.block g (Array.getElem?_eq_some_iff.1 hg).1 (hF g rfl)).trans hg, r⟩
/-- A knot stays what it is while others turn. -/
theorem Kn.keep {F : Nat → Prop} (h : Kn B w K v l) (ht : Turns F w x) (hF : ∀ k, Foot K v k → ¬ F k) : Kn B x K v l :=
  ⟨h.1, (ht.block K h.lt (hF K (.inl rfl))).trans h.2.1, own_turn h.own ht fun k hk => hF k (.inr hk)⟩
theorem Kn.keep_below (h : Kn B w K v l) (hb : Below w.heap.size w x) : Kn B x K v l := h.keep (F := fun _ => False) (Turns.of_below hb) fun _ _ h => h
theorem Kn.alloc (h : Kn B w K v l) (o : Obj) : Kn B (w.alloc o) K v l := h.keep_below ((Below.refl _ _).alloc (Nat.le_refl _) o)
theorem KStep.refl (K : Nat) (v : Value) (w : World) : KStep K v v w w := ⟨Turns.refl _ _, NewRow.refl _ _⟩
theorem KStep.below (h : KStep K v v' w x) (hk : Kn B w K v l) : Below B w x := h.turns.below hk.base fun k hf => (hk.foot k hf).1
theorem KStep.trans {v1 v2 : Value} (h : KStep K v v1 w x) (h2 : KStep K v1 v2 x y) : KStep K v v2 w y := by
  refine ⟨h.turns.trans h2.turns ?_, fun k hk => ?_⟩
  · rintro k hk (rfl | e)
    · exact .inl rfl
    · rcases h.new k e with h' | h'
      · exact .inr h'
      · omega
  · rcases h2.new k hk with h' | h'
    · exact h.new k h'
    · have := h.turns.size
      exact .inr (by omega)
theorem KStep.after_below (hb : Below w.heap.size w x) (h : KStep K v v' x y) : KStep K v v' w y :=
  ⟨Turns.after_below hb h.turns, fun k hk => (h.new k hk).imp id fun h' => Nat.le_trans hb.size h'⟩
theorem KStep.then_below (h : KStep K v v' w x) (hb : Below x.heap.size x y) : KStep K v v' w y := ⟨h.turns.then_below hb, h.new⟩
/-- Two knots that share nothing go on sharing nothing. -/
theorem apart_step {K2 : Nat} {v2 : Value} {l2 : List UInt8} (h : Kn B w K2 v2 l2) (hs : KStep K v v' w x) (hd : ∀ k, Foot K2 v2 k → ¬ Foot K v k) : ∀ k, Foot K2 v2 k → ¬ Foot K v' k := by
  rintro k hk (rfl | e)
  · exact hd _ hk (.inl rfl)
  · rcases hs.new k e with h' | h'
    · exact hd _ hk (.inr h')
    · have := (h.foot k hk).2
      omega

/-- An append, and the store of what it answers. -/
theorem Kn.put {m : List UInt8} (h : Kn B w K v l) (hx : x.ownsRow B 5 1 v' (l.length + m.length) (Lib.byteCells l ++ Lib.byteCells m)) (hg : w.grownBy x v.ownBlock) (hn : NewRow w v v') :
    Kn B (x.setCell ⟨K, 0, none⟩ v') K v' (l ++ m) ∧ KStep K v v' w (x.setCell ⟨K, 0, none⟩ v') := by
  have hK : x.heap[K]? = some (.cells #[v] 62 (0, 0)) := (hg.block K h.lt fun e => h.ne e.symm).trans h.2.1
  have hne : v'.ownBlock ≠ some K := fun e => by
    rcases hn K e with h' | h'
    · exact h.ne h'
    · have := h.lt
      omega
  have t1 : Turns (fun k => k = K) x (x.setCell ⟨K, 0, none⟩ v') := (Turns.refl _ _).setCell (by rfl) _
  refine ⟨⟨h.1, ?_, ?_⟩, (Turns.of_grown hg fun k hk => .inr hk).trans t1 fun k _ e => .inl e, hn⟩
  · rw [heap_setCell_same x K 0 #[v] _ _ hK]
    rfl
  · have h2 := own_turn hx t1 fun k hk e => hne (by rw [← e]; exact hk)
    rw [List.length_append, Lib.byteCells_append]
    exact h2
theorem own_slice {b n : Nat} {e : TypeId} {xs : List Value} (h : w.ownsRow b e 1 v n xs) : ∃ ao c, v = .slice ao n c := by
  rcases h.2 with ⟨rfl, rfl⟩ | ⟨g, cap, cur, rfl, _⟩
  · exact ⟨_, _, rfl⟩
  · exact ⟨_, _, rfl⟩
/-- Behind the append the knot's own cell is what it was. -/
theorem Kn.still (h : Kn B w K v l) (hg : w.grownBy x v.ownBlock) : x.cell? ⟨K, 0, none⟩ = some v ∧ x.frozen? ⟨K, 0, none⟩ = false := by
  have e : x.heap[K]? = w.heap[K]? := hg.block K h.lt fun e => h.ne e.symm
  exact ⟨(World.cell?_of_block (w := w) (a := ⟨K, 0, none⟩) e).trans h.cell, (World.frozen?_of_block (w := w) (a := ⟨K, 0, none⟩) e).trans h.frozen⟩
theorem Kn.put_eq {m : List UInt8} {n : Nat} {xs : List Value} (h : Kn B w K v l) (hx : x.ownsRow B 5 1 v' n xs) (hn : n = l.length + m.length) (hxs : xs = Lib.byteCells (l ++ m)) (hg : w.grownBy x v.ownBlock) (hr : NewRow w v v') :
    Kn B (x.setCell ⟨K, 0, none⟩ v') K v' (l ++ m) ∧ KStep K v v' w (x.setCell ⟨K, 0, none⟩ v') := by
  subst hn
  rw [hxs, Lib.byteCells_append] at hx
  exact h.put hx hg hr
/-- The cell of a new list of one. -/
theorem one_new {W : World} {b : Nat} {c : Value} {T : TypeId} (hb : b = W.heap.size) : ∀ j u, [c][j]? = some u → (W.alloc (.cells #[c] T)).cell? ((⟨b, 0, none⟩ : Addr).add j) = some u := by
  subst hb
  intro j u hj
  match j, hj with
  | 0, hj => simp at hj; subst hj; simp [Addr.add]
theorem one_oneCell (l : List UInt8) : ∀ u ∈ Lib.byteCells l, u.oneCell' = true := by
  intro u hu
  simp only [Lib.byteCells, List.mem_map] at hu
  obtain ⟨b, _, rfl⟩ := hu
  rfl
end
end Knot
end Go.Proofs.YtoeaapomjjclaaaDoor
