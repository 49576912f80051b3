/-
  Layer 7's document: boxes of four cells, whatever they hold.
-/
import Derived.Test.YtbphmaoomnocmaaDoorGrDa
namespace Go.Proofs.YtbphmaoomnocmaaDoor
open Go.RowKit
namespace Gr
open Knot (Turns NewRow)
open Tr (Nd none0 node4 own_slice Box4)
open Sg (Tok kt TokAt txt)

abbrev tSt : TypeId := 64
abbrev tNd : TypeId := 25
/-- A box of four cells. -/
def C4 (R : Nat) (T : TypeId) (a b c d : Value) (x : World) : Prop := x.heap[R]? = some (.cells #[a, b, c, d] T (0, 0))
/-- All of a box is stored. -/
def st4 (x : World) (R : Nat) (a b c d : Value) : World := (((x.setCell ⟨R, 0, none⟩ a).setCell ⟨R, 1, none⟩ b).setCell ⟨R, 2, none⟩ c).setCell ⟨R, 3, none⟩ d
section
variable {R : Nat} {T : TypeId} {a b c d : Value} {x y : World}
theorem C4.lt (h : C4 R T a b c d x) : R < x.heap.size := (Array.getElem?_eq_some_iff.1 h).1
theorem C4.cells (h : C4 R T a b c d x) : x.cell? ⟨R, 0, none⟩ = some a ∧ x.cell? ⟨R, 1, none⟩ = some b ∧ x.cell? ⟨R, 2, none⟩ = some c ∧ x.cell? ⟨R, 3, none⟩ = some d :=
  ⟨by rw [Lib.cell_of_heap h]; rfl, by rw [Lib.cell_of_heap h]; rfl, by rw [Lib.cell_of_heap h]; rfl, by rw [Lib.cell_of_heap h]; rfl⟩
theorem C4.free (h : C4 R T a b c d x) : x.frozen? ⟨R, 0, none⟩ = false ∧ x.frozen? ⟨R, 1, none⟩ = false ∧ x.frozen? ⟨R, 2, none⟩ = false ∧ x.frozen? ⟨R, 3, none⟩ = false := ⟨Lib.frozen_of_heap h 0, Lib.frozen_of_heap h 1, Lib.frozen_of_heap h 2, Lib.frozen_of_heap h 3⟩
theorem C4.on (h : C4 R T a b c d x) (hb : Below x.heap.size x y) : C4 R T a b c d y := (hb.block R h.lt).trans h
theorem C4.turn {F : Nat → Prop} (h : C4 R T a b c d x) (ht : Turns F x y) (hF : ¬ F R) : C4 R T a b c d y := ht.heap h hF
theorem C4.new (x : World) (T : TypeId) (a b c d : Value) : C4 x.heap.size T a b c d (x.alloc (.cells #[a, b, c, d] T)) := heap_alloc_new x _
theorem C4.put (h : C4 R T a b c d x) (a' b' c' d' : Value) : C4 R T a' b' c' d' (st4 x R a' b' c' d') :=
  Lib.heap_setCell_same (i := 3) (Lib.heap_setCell_same (i := 2) (Lib.heap_setCell_same (i := 1) (Lib.heap_setCell_same (i := 0) h _) _) _) _
theorem C4.put1 (h : C4 R T a b c d x) (b' : Value) : C4 R T a b' c d (x.setCell ⟨R, 1, none⟩ b') := Lib.heap_setCell_same (i := 1) h _
theorem st4_own (x : World) (R : Nat) (a b c d : Value) : Turns (fun g => g = R) x (st4 x R a b c d) :=
  ((Turns.refl (fun g => g = R) x).setCell (p := ⟨R, 0, none⟩) rfl _).setCell (p := ⟨R, 1, none⟩) rfl _ |>.setCell (p := ⟨R, 2, none⟩) rfl _ |>.setCell (p := ⟨R, 3, none⟩) rfl _
theorem st4_size (x : World) (R : Nat) (a b c d : Value) : (st4 x R a b c d).heap.size = x.heap.size := by simp [st4, World.setCell]
theorem st1_own (x : World) (R i : Nat) (a : Value) : Turns (fun g => g = R) x (x.setCell ⟨R, i, none⟩ a) := (Turns.refl (fun g => g = R) x).setCell (p := ⟨R, i, none⟩) rfl _
end
/-- Two operations may come up now, and each may do as it likes along R. -/
theorem acts_two {Pr : Program} {ops : Array Oper} {Q : Exit → Act → World → Prop} {md : Region.Mode} {R : World → World → Prop} (hR : ∀ {x y z}, R x y → R y z → R x z) {w : World} {fuel i j : Nat} {listed : Array Bool} {a : Act} {o p : Oper} (hi : ops[i]? = some o) (hj : ops[j]? = some p) (hr : Region.ready md ops listed = [i, j])
    (hw : Region.wanted o (yielded ops a.tmps) = true) (hv : Region.wanted p (yielded ops a.tmps) = true) (h : o.wp Pr a w (fun a' x => R w x ∧ wpAnyH Pr md ops Q (R x) fuel (listed.setIfInBounds i true) a' x) Q)
    (k : p.wp Pr a w (fun a' x => R w x ∧ wpAnyH Pr md ops Q (R x) fuel (listed.setIfInBounds j true) a' x) Q) :
    wpAnyH Pr md ops Q (R w) (fuel + 1) listed a w := by
  refine wpAnyH_all hr (by simp) fun n hn => ?_
  rcases List.mem_cons.1 hn with rfl | hn
  · unfold wpOp
    simp only [hi, hw, if_true]
    exact .inl (Oper.wp_mono (fun a' x hx => ⟨hx.1, Order.any_mono (fun y hy => hR hx.1 hy) _ _ _ _ hx.2⟩) h)
  · rw [List.mem_singleton] at hn
    subst hn
    unfold wpOp
    simp only [hj, hv, if_true]
    exact .inl (Oper.wp_mono (fun a' x hx => ⟨hx.1, Order.any_mono (fun y hy => hR hx.1 hy) _ _ _ _ hx.2⟩) k)
theorem stV_tl1 {c : DCtx} {o : Nat} {s : St} (h : s.rest <:+ kt c.L) (hn : next s ≠ 0) : stV c o (tl s) = .agg #[.slice c.ao c.L.length c.cap, .int .i64 ((atN c s : Int) + 1), .int .i64 (o : Nat), .int .i64 (s.err : Nat)] := by
  rw [stV_tl h hn]; rfl
theorem at_wrap {c : DCtx} {x : World} (h : DEnv c x) (s : St) : IntKind.wrap .i64 ((atN c s : Int) + 1) = (atN c s : Int) + 1 := by
  have h1 := h.len
  have h2 : atN c s ≤ 10000 := by unfold atN; omega
  rw [IntKind.wrap_i64] <;> omega
/-- The two results' blocks. -/
abbrev Two (x : World) (g : Nat) : Prop := g = x.heap.size + 1 ∨ g = x.heap.size + 1 + 1
/-- How state and node are handed back. -/
theorem fin_nd {x w : World} {n : Nd} {v : Value} (h1 : C4 (x.heap.size + 1) tSt (.slice none 0 0) (.int .i64 0) (.int .i64 0) (.int .i64 0) w) (h2 : C4 (x.heap.size + 1 + 1) tNd (.int .i64 0) (.string ⟨#[]⟩) (.string ⟨#[]⟩) (.slice none 0 0) w)
    (hb : Below x.heap.size x w) (hn : NodeS (fun g => x.heap.size + 3 ≤ g) w n v) (a b c d k p q s : Value) :
    C4 (x.heap.size + 1 + 1) tNd (.int .i64 0) (.string ⟨#[]⟩) (.string ⟨#[]⟩) (.slice none 0 0) (st4 w (x.heap.size + 1) a b c d) ∧
    C4 (x.heap.size + 1) tSt a b c d (st4 (st4 w (x.heap.size + 1) a b c d) (x.heap.size + 1 + 1) k p q s) ∧
    C4 (x.heap.size + 1 + 1) tNd k p q s (st4 (st4 w (x.heap.size + 1) a b c d) (x.heap.size + 1 + 1) k p q s) ∧
    NodeS (fun g => x.heap.size ≤ g) (st4 (st4 w (x.heap.size + 1) a b c d) (x.heap.size + 1 + 1) k p q s) n v ∧
    Below x.heap.size x (st4 (st4 w (x.heap.size + 1) a b c d) (x.heap.size + 1 + 1) k p q s) ∧
    Turns (Two x) w (st4 w (x.heap.size + 1) a b c d) ∧ Turns (Two x) (st4 w (x.heap.size + 1) a b c d) (st4 (st4 w (x.heap.size + 1) a b c d) (x.heap.size + 1 + 1) k p q s) := by
  have t1 := st4_own w (x.heap.size + 1) a b c d
  have t2 := st4_own (st4 w (x.heap.size + 1) a b c d) (x.heap.size + 1 + 1) k p q s
  have m2 := h2.turn t1 (by omega)
  have b1 := hb.trans (t1.below hb.size fun k hk => by omega)
  exact ⟨m2, (h1.put a b c d).turn t2 (by omega), m2.put k p q s, (hn.turn t1 (fun g hg _ e => by omega) fun g hg _ => hg).turn t2 (fun g hg _ e => by omega) fun g hg _ => by omega,
    b1.trans (t2.below b1.size fun k hk => by omega), t1.mono fun _ _ h => .inl h, t2.mono fun _ _ h => .inr h⟩
theorem NodeS.sub {S S' : Nat → Prop} {w : World} {n : Nd} {v : Value} (h : NodeS S w n v) (hS : ∀ g, S g → g < w.heap.size → S' g) : NodeS S' w n v := h.turn (Turns.refl (fun _ => False) w) (fun _ _ _ h => h) hS
end Gr
end Go.Proofs.YtbphmaoomnocmaaDoor
