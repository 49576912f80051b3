/-
  Layer 7 (grammar): less, out of atom.
-/
import Derived.Test.YtbphmaoomnocmaaDoorGrMeet
import Derived.Test.YtbphmaoomnocmaaDoorMgMem
namespace Go.Proofs.YtbphmaoomnocmaaDoor
open Go.RowKit
namespace Gr
open Knot (Turns NewRow)
open Tr (Nd none0 node4 own_slice RowAt own_open Box4)
open Sg (Tok kt)

/-- A list of two nodes. -/
theorem row_two {x : World} {g : Nat} {T : TypeId} {a0 a1 a2 a3 b0 b1 b2 b3 : Value} (h : x.heap[g]? = some (.cells #[a0, a1, a2, a3, b0, b1, b2, b3] T (0, 0))) : RowAt x 4 g 0 [.agg #[a0, a1, a2, a3], .agg #[b0, b1, b2, b3]] := by
  intro i v hv
  match i, hv with
  | 0, hv =>
    obtain rfl : Value.agg #[a0, a1, a2, a3] = v := by simpa using hv
    refine ⟨rfl, fun j u hj => ?_⟩
    match j, hj with
    | 0, hj => rw [Lib.cell_of_heap h]; exact hj
    | 1, hj => rw [Lib.cell_of_heap h]; exact hj
    | 2, hj => rw [Lib.cell_of_heap h]; exact hj
    | 3, hj => rw [Lib.cell_of_heap h]; exact hj
    | j + 4, hj => simp [Value.cells] at hj
  | 1, hv =>
    obtain rfl : Value.agg #[b0, b1, b2, b3] = v := by simpa using hv
    refine ⟨rfl, fun j u hj => ?_⟩
    match j, hj with
    | 0, hj => rw [Lib.cell_of_heap h]; exact hj
    | 1, hj => rw [Lib.cell_of_heap h]; exact hj
    | 2, hj => rw [Lib.cell_of_heap h]; exact hj
    | 3, hj => rw [Lib.cell_of_heap h]; exact hj
    | j + 4, hj => simp [Value.cells] at hj
  | i + 2, hv => simp at hv
/-- A node out of a row of two. -/
theorem two_node {x : World} {g cap : Nat} {S : Nat → Prop} {T : TypeId} {k : Int} {n m : Nd} {a0 a1 a2 a3 b0 b1 b2 b3 : Value} (h : x.heap[g]? = some (.cells #[a0, a1, a2, a3, b0, b1, b2, b3] T (0, 0)))
    (hn : NodeS S x n (.agg #[a0, a1, a2, a3])) (hm : NodeS S x m (.agg #[b0, b1, b2, b3])) (hS : S g) : NodeS S x (.mk k none0 none0 [n, m]) (node4 k none0 none0 (.slice (some ⟨g, 0, none⟩) 2 cap)) := by
  rw [NodeS]
  refine ⟨_, _, [.agg #[a0, a1, a2, a3], .agg #[b0, b1, b2, b3]], rfl, ⟨by decide, by decide⟩, fun _ => ⟨g, 0, rfl, hS, row_two h⟩, ?_⟩
  rw [NodesS]
  refine ⟨_, _, rfl, hn, ?_⟩
  rw [NodesS]
  refine ⟨_, _, rfl, hm, ?_⟩
  rw [NodesS]
/-- What less stands on: the first atom in its box. -/
structure Le (c : Ctx) (o : Nat) (x : World) (n : Nd) (s : St) (R3 : Nat) (ns : Value) (w : World) : Prop where
  rd : Rd c o s w
  res : Box4 x.heap.size 0 ⟨#[]⟩ ⟨#[]⟩ (.slice none 0 0) w
  box : Box4 R3 n.kind n.ta n.tb ns w
  node : NodeS (fun g => x.heap.size < g ∧ g < R3) w n (node4 n.kind n.ta n.tb ns)
  turns : Turns (fun k => k = c.R) x w
  low : c.R < x.heap.size ∧ x.heap.size < R3 ∧ R3 < w.heap.size
theorem Le.turn {c : Ctx} {o : Nat} {x : World} {n : Nd} {s s' : St} {R3 : Nat} {ns : Value} {w y : World} (h : Le c o x n s R3 ns w) (hr : Rd c o s' y) (ht : Turns (fun k => k = c.R) w y) : Le c o x n s' R3 ns y :=
  ⟨hr, (ht.block _ h.res.lt (by have := h.low.1; omega)).trans h.res, (ht.block _ h.box.lt (by have := h.low; omega)).trans h.box, h.node.turn ht (fun g hg _ e => by have := h.low.1; omega) fun g hg _ => hg,
    h.turns.trans ht fun _ _ h => h, ⟨h.low.1, h.low.2.1, Nat.lt_of_lt_of_le h.low.2.2 ht.size⟩⟩

set_option maxHeartbeats 2000000 in
set_option maxRecDepth 100000 in
theorem less_any {c : Ctx} {o : Nat} {br : P} (hp : ∀ s x, Rd c o s x → Calls Tryd.prog 92 #[.pointer (some ⟨c.R, 0, none⟩)] x (Out nodeE c o (atomOf br s) x)) {s : St} {x : World} (h : Rd c o s x) :
    Calls Tryd.prog 68 #[.pointer (some ⟨c.R, 0, none⟩)] x (Out nodeE c o (lessOf br s) x) := by
  have al : Below x.heap.size x (x.alloc (.cells #[.int .i64 0, .string ⟨#[]⟩, .string ⟨#[]⟩, .slice none 0 0] 25)) := (Below.refl _ _).alloc (Nat.le_refl _) _
  have hC := hp s _ (h.below al)
  have hb := Box4.new x 0 ⟨#[]⟩ ⟨#[]⟩ (.slice none 0 0)
  have hz : (x.alloc (.cells #[.int .i64 0, .string ⟨#[]⟩, .string ⟨#[]⟩, .slice none 0 0] 25)).heap.size = x.heap.size + 1 := by simp
  have H0 := Lib.hid (And.intro al (And.intro hb (And.intro h.lt hz)))
  have HP := Lib.hid hp
  have HC := Lib.hid hC
  clear h al hb hp hC hz
  have HQ := Lib.hid (show lessOf br s = if next (atomOf br s).2 = 45 then (.mk 6 none0 none0 [(atomOf br s).1, (atomOf br (tl (atomOf br s).2)).1], (atomOf br (tl (atomOf br s).2)).2) else atomOf br s from rfl)
  generalize lessOf br s = res at *
  generalize atomOf br s = r at *
  obtain ⟨n, s1⟩ := r
  simp only at HQ
  go_enter Tryd.func68, Tryd.ntmps68
  go_wp2_with fail
  refine HC.out.mono ?_
  rintro e y ⟨v, rfl, hv, h1, h2⟩
  have hv' : NodeS (fun g => (x.alloc (.cells #[.int .i64 0, .string ⟨#[]⟩, .string ⟨#[]⟩, .slice none 0 0] 25)).heap.size ≤ g) y n v := hv
  obtain ⟨no, nc, us, rfl, -⟩ := hv'.open
  have al2 : Below y.heap.size y (y.alloc (.cells #[.int .i64 n.kind, .string n.ta, .string n.tb, .slice no n.kids.length nc] 25)) := (Below.refl _ _).alloc (Nat.le_refl _) _
  have hLe : Le c o x n s1 y.heap.size (.slice no n.kids.length nc) (y.alloc (.cells #[.int .i64 n.kind, .string n.ta, .string n.tb, .slice no n.kids.length nc] 25)) := by
    obtain ⟨q1, q2, q3, q4⟩ := H0.out
    have hsz := h2.size
    refine ⟨h1.below al2, (show Box4 x.heap.size 0 ⟨#[]⟩ ⟨#[]⟩ (.slice none 0 0) y from (h2.block x.heap.size (by omega) (by omega)).trans q2).on al2, Box4.new y _ _ _ _, hv'.turn (Turns.of_below (F := fun _ => False) al2) (fun _ _ _ h => h) (fun g hg hl => ⟨by omega, hl⟩), (Turns.after_below q1 h2).then_below al2, q3, by omega, by simp⟩
  have HLe := Lib.hid hLe
  clear hv hv' h1 h2 al2 hLe H0 HC
  go_wp2_with fail
  have hT := take_any HLe.out.rd 45 (by decide)
  generalize y.heap.size = R3 at *
  generalize y.alloc (.cells #[.int .i64 n.kind, .string n.ta, .string n.tb, .slice no n.kids.length nc] 25) = w1 at *
  clear y
  by_cases hn : next s1 = 45
  · rw [if_pos hn, decide_eq_true hn] at hT
    have HQ2 := Lib.hid (HQ.out.trans (if_pos hn))
    clear HQ
    have HT := Lib.hid hT
    clear hT hn
    refine HT.out.mono ?_
    rintro e w2 ⟨rfl, h1, h2⟩
    have HL2 := Lib.hid (HLe.out.turn h1 h2)
    clear h1 h2 HLe HT
    clear w1
    go_wp2_with fail
    have hbd : Below w2.heap.size w2 w2.drew := (Below.refl _ _).drew
    have HL3 := Lib.hid (HL2.out.turn (HL2.out.rd.below hbd) (Turns.of_below hbd))
    have HX := Lib.hid (show ∀ z, Turns (fun k => k = c.R ∨ k = x.heap.size) w2.drew z → z.cell? ⟨R3, 0, none⟩ = some (.int .i64 n.kind) ∧ z.cell? ⟨R3, 1, none⟩ = some (.string n.ta) ∧ z.cell? ⟨R3, 2, none⟩ = some (.string n.tb) ∧ z.cell? ⟨R3, 3, none⟩ = some (.slice no n.kids.length nc) from fun z hz => by
      have hb := HL3.out.box
      have hl := HL3.out.low
      exact Box4.cells ((hz.block R3 hb.lt (by omega)).trans hb))
    clear hbd HL2
    refine Order.region_begin (S := Turns (fun k => k = c.R ∨ k = x.heap.size) w2.drew) (by kernel_rfl) ?_
    refine Order.reads_any (idx := [0, 1]) (by kernel_rfl) (Turns.refl _ _) (fun _ _ _ _ _ h => Order.noPanic_put h) 4 _ _ (by decide +kernel) ?_
    simp only [Order.pick, List.getElem?_toArray, List.getElem?_cons_zero, List.getElem?_cons_succ]
    repeat (first
      | (refine Order.reads_off (by rfl) ?_
         simp only [Act.put, List.setIfInBounds_toArray, List.set_cons_zero, List.set_cons_succ])
      | (apply Order.reads_on
         · rfl
         · intro x hx
           first
             | (go_simp; rfl)
             | (obtain ⟨i0, i1, i2, i3⟩ := HX.out x hx
                go_simp; rfl)
         simp only [Act.put, List.setIfInBounds_toArray, List.set_cons_zero, List.set_cons_succ]))
    refine Order.reads_end ?_
    apply Order.acts_any (R := (Turns (fun k => k = c.R ∨ k = x.heap.size))) (fun h k => h.trans k fun _ _ h => h) (i := 2)
    · rfl
    · decide +kernel
    · rfl
    unfold Oper.wp
    go_simp
    refine Calls.mono (HP.out _ _ HL3.out.rd) ?_
    rintro e w3 ⟨v, rfl, hv, h1, h2⟩
    have hv' : NodeS (fun g => w2.drew.heap.size ≤ g) w3 (atomOf br (tl s1)).1 v := hv
    obtain ⟨mo, mc, us, rfl, -⟩ := hv'.open
    refine ⟨h2.mono fun _ _ h => .inl h, ?_⟩
    have HL4 := Lib.hid (And.intro (HL3.out.turn h1 h2) (And.intro hv' h2))
    clear hv hv' h1 h2 HX HP
    generalize atomOf br (tl s1) = r2 at *
    obtain ⟨m, s2⟩ := r2
    simp only at *
    apply Order.acts_any (R := (Turns (fun k => k = c.R ∨ k = x.heap.size))) (fun h k => h.trans k fun _ _ h => h) (i := 3)
    · rfl
    · decide +kernel
    · rfl
    unfold Oper.wp
    go_simp
    refine ⟨(Turns.refl _ _).alloc _, ?_⟩
    have hrow := heap_alloc_new w3 (.cells #[.int .i64 n.kind, .string n.ta, .string n.tb, .slice no n.kids.length nc, .int .i64 m.kind, .string m.ta, .string m.tb, .slice mo m.kids.length mc] 25)
    have al : Below w3.heap.size w3 (w3.alloc (.cells #[.int .i64 n.kind, .string n.ta, .string n.tb, .slice no n.kids.length nc, .int .i64 m.kind, .string m.ta, .string m.tb, .slice mo m.kids.length mc] 25)) := (Below.refl _ _).alloc (Nat.le_refl _) _
    have hL5 := HL4.out.1.turn (HL4.out.1.rd.below al) (Turns.of_below al)
    have hnode := two_node (k := 6) (cap := 2) (S := fun g => x.heap.size + 1 ≤ g) (n := n) (m := m) hrow (hL5.node.turn (Turns.refl (fun _ => False) _) (fun _ _ _ h => h) fun g hg _ => hg.1)
      (HL4.out.2.1.turn (Turns.of_below (F := fun _ => False) al) (fun _ _ _ h => h) fun g hg _ => by have := HL3.out.low; omega) (by have := hL5.low; have := HL4.out.1.low; omega)
    have HF := Lib.hid (fun k a b s => fin_node (c := c) (o := o) (x := x) hnode (Nat.lt_succ_self _) hL5.rd hL5.turns hL5.low.1 k a b s)
    have hb2 := hL5.res
    have hb3 := Box4.set (k' := 6) (a' := ⟨#[]⟩) (b' := ⟨#[]⟩) (s' := .slice (some ⟨w3.heap.size, 0, none⟩) 2 2) hb2
    obtain ⟨d0, d1, d2, d3⟩ := hb2.cells
    have hfz := fun i => Lib.frozen_of_heap hb2 i
    have f0 := hfz 0
    have f1 := hfz 1
    have f2 := hfz 2
    have f3 := hfz 3
    have HG := Lib.hid hb3.cells
    clear hrow al hL5 hnode hb2 hb3 hfz HL4 HL3
    generalize w3.heap.size = R4 at *
    generalize w3.alloc (.cells #[.int .i64 n.kind, .string n.ta, .string n.tb, .slice no n.kids.length nc, .int .i64 m.kind, .string m.ta, .string m.tb, .slice mo m.kids.length mc] 25) = w4 at *
    clear w3
    refine Order.reads_any (idx := [4]) (by kernel_rfl) (Turns.refl _ _) (fun _ _ _ _ _ h => Order.noPanic_put h) 1 _ _ (by decide +kernel) ?_
    simp only [Order.pick, List.getElem?_toArray, List.getElem?_cons_zero, List.getElem?_cons_succ]
    repeat (first
      | (refine Order.reads_off (by rfl) ?_
         simp only [Act.put, List.setIfInBounds_toArray, List.set_cons_zero, List.set_cons_succ])
      | (apply Order.reads_on
         · rfl
         · intro x hx
           first
             | (go_simp; rfl)
             | (fail
                go_simp; rfl)
         simp only [Act.put]))
    refine Order.reads_end ?_
    apply Order.acts_any (R := (Turns (fun k => k = c.R ∨ k = x.heap.size))) (fun h k => h.trans k fun _ _ h => h) (i := 5)
    · rfl
    · decide +kernel
    · rfl
    unfold Oper.wp
    go_simp
    refine ⟨(setN_own w4 x.heap.size 6 ⟨#[]⟩ ⟨#[]⟩ (.slice (some ⟨R4, 0, none⟩) 2 2)).mono fun _ _ h => .inr h, ?_⟩
    refine wpAnyH_done (by decide +kernel) ?_ _
    refine NoPanic.normal ?_
    go_wp2_with fail
    obtain ⟨g0, g1, g2, g3⟩ := HG.out
    unfold setN at g0 g1 g2 g3
    exact bodyPost_ret (v := node4 6 none0 none0 (.slice (some ⟨R4, 0, none⟩) 2 2)) (by simp [results, Tryd.results68, go_sem, g0, g1, g2, g3, none0]) rfl ⟨_, rfl, by rw [HQ2.out]; exact HF.out 6 ⟨#[]⟩ ⟨#[]⟩ (.slice (some ⟨R4, 0, none⟩) 2 2)⟩
  · rw [if_neg hn, decide_eq_false hn] at hT
    have HQ2 := Lib.hid (HQ.out.trans (if_neg hn))
    have HT := Lib.hid hT
    clear hT hn HQ
    refine HT.out.mono ?_
    rintro e w2 ⟨rfl, h1, h2⟩
    have hL5 := HLe.out.turn h1 h2
    have HF := Lib.hid (fun k a b s => fin_node (c := c) (o := o) (x := x) (B := x.heap.size + 1) (hL5.node.turn (Turns.refl (fun _ => False) _) (fun _ _ _ h => h) fun g hg _ => hg.1) (Nat.lt_succ_self _) hL5.rd hL5.turns hL5.low.1 k a b s)
    have hb2 := hL5.res
    have hb3 := Box4.set (k' := n.kind) (a' := n.ta) (b' := n.tb) (s' := .slice no n.kids.length nc) hb2
    obtain ⟨d0, d1, d2, d3⟩ := hb2.cells
    obtain ⟨e0, e1, e2, e3⟩ := hL5.box.cells
    have hfz := fun i => Lib.frozen_of_heap hb2 i
    have f0 := hfz 0
    have f1 := hfz 1
    have f2 := hfz 2
    have f3 := hfz 3
    have HG := Lib.hid hb3.cells
    clear hL5 hb2 hb3 hfz HLe HT h1 h2 HP
    go_wp2_with fail
    obtain ⟨g0, g1, g2, g3⟩ := HG.out
    unfold setN at g0 g1 g2 g3
    exact bodyPost_ret (v := node4 n.kind n.ta n.tb (.slice no n.kids.length nc)) (by simp [results, Tryd.results68, go_sem, g0, g1, g2, g3]) rfl ⟨_, rfl, by rw [HQ2.out]; exact HF.out n.kind n.ta n.tb (.slice no n.kids.length nc)⟩
end Gr
end Go.Proofs.YtbphmaoomnocmaaDoor
