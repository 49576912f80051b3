/-
  Layer 7 (grammar): union and meet, out of what stands below them; atom and less, out of brackets.
-/
import Derived.Test.YtbphmaoomnocmaaDoorGrJoin
import Derived.Deep.DeepCutAuto
namespace Go.Proofs.YtbphmaoomnocmaaDoor
open Go.RowKit
namespace Gr
open Knot (Turns NewRow)
open Tr (Nd none0 node4 own_slice RowAt own_open Box4)
open Sg (Tok kt)

theorem enter_less : ∀ args W, (callFunc 68 args).run Tryd.prog W = .ok (.enter 68 args) W := fun args W => by kernel_rfl
theorem enter_meet : ∀ args W, (callFunc 42 args).run Tryd.prog W = .ok (.enter 42 args) W := fun args W => by kernel_rfl
theorem enter_union : ∀ args W, (callFunc 20 args).run Tryd.prog W = .ok (.enter 20 args) W := fun args W => by kernel_rfl

/-- A node that a call hands back out of its box. -/
theorem ret_node {W : World} {R : Nat} {k : Int} {a b : ByteArray} {s : Value} (h : Box4 R k a b s W) : W.cell? ⟨R, 0, none⟩ = some (.int .i64 k) ∧ W.cell? ⟨R, 1, none⟩ = some (.string a) ∧ W.cell? ⟨R, 2, none⟩ = some (.string b) ∧ W.cell? ⟨R, 3, none⟩ = some s := h.cells
theorem lists_len {p : P} (hf : Fine p) {k : Int} (hk : k ≠ 0) (s : St) : (list p k s).1 ≠ [] ∧ (list p k s).1.length ≤ s.rest.length + 1 := by
  refine ⟨by simp [list], ?_⟩
  have h1 := eachs_len hf hk (p s).2
  have h2 := (hf.suf s).length_le
  simp only [list, List.length_cons]
  omega
/-- Four stores into a node's box. -/
def setN (x : World) (R : Nat) (k : Int) (a b : ByteArray) (s : Value) : World := (((x.setCell ⟨R, 0, none⟩ (.int .i64 k)).setCell ⟨R, 1, none⟩ (.string a)).setCell ⟨R, 2, none⟩ (.string b)).setCell ⟨R, 3, none⟩ s
theorem Box4.set {R : Nat} {k k' : Int} {a b a' b' : ByteArray} {s s' : Value} {x : World} (h : Box4 R k a b s x) : Box4 R k' a' b' s' (setN x R k' a' b' s') := by
  have h1 := Lib.heap_setCell_same (i := 0) h (.int .i64 k')
  have h2 := Lib.heap_setCell_same (i := 1) h1 (.string a')
  have h3 := Lib.heap_setCell_same (i := 2) h2 (.string b')
  exact Lib.heap_setCell_same (i := 3) h3 s'
theorem setN_turns {F : Nat → Prop} {w x : World} (h : Turns F w x) {R : Nat} (hR : w.heap.size ≤ R) (k : Int) (a b : ByteArray) (s : Value) : Turns F w (setN x R k a b s) :=
  (((h.setNew (p := ⟨R, 0, none⟩) hR _).setNew (p := ⟨R, 1, none⟩) hR _).setNew (p := ⟨R, 2, none⟩) hR _).setNew (p := ⟨R, 3, none⟩) hR _
theorem setN_own (x : World) (R : Nat) (k : Int) (a b : ByteArray) (s : Value) : Turns (fun g => g = R) x (setN x R k a b s) :=
  (((Turns.refl (fun g => g = R) x).setCell (p := ⟨R, 0, none⟩) rfl _).setCell (p := ⟨R, 1, none⟩) rfl _).setCell (p := ⟨R, 2, none⟩) rfl _ |>.setCell (p := ⟨R, 3, none⟩) rfl _
theorem fin_node {c : Ctx} {o : Nat} {n : Nd} {s' : St} {x z : World} {v : Value} {B : Nat} (hu : NodeS (fun g => B ≤ g) z n v) (hB : x.heap.size < B) (hr : Rd c o s' z) (ht : Turns (fun k => k = c.R) x z) (hR : c.R < x.heap.size) (k : Int) (a b : ByteArray) (s : Value) :
    NodeS (fun g => x.heap.size ≤ g) (setN z x.heap.size k a b s) n v ∧ Rd c o s' (setN z x.heap.size k a b s) ∧ Turns (fun k => k = c.R) x (setN z x.heap.size k a b s) :=
  ⟨hu.turn (setN_own z x.heap.size k a b s) (fun g hg _ e => by omega) fun g hg _ => by omega, hr.turn (setN_own z x.heap.size k a b s) fun g hg e => by omega, setN_turns ht (Nat.le_refl _) k a b s⟩
set_option maxHeartbeats 1000000 in
set_option maxRecDepth 100000 in
theorem meet_any {c : Ctx} {o : Nat} {br : P} (hp : Part nodeE c o 68 (lessOf br)) (hf : Fine br) {s : St} {x : World} (h : Rd c o s x) :
    Calls Tryd.prog 42 #[.pointer (some ⟨c.R, 0, none⟩)] x (Out nodeE c o (meetOf br s) x) := by
  have al : Below x.heap.size x (x.alloc (.cells #[.int .i64 0, .string ⟨#[]⟩, .string ⟨#[]⟩, .slice none 0 0] 25)) := (Below.refl _ _).alloc (Nat.le_refl _) _
  have HL := Lib.hid (listN_any hp (less_fine hf) (k := 38) (by decide) (h.below al))
  have hb := Box4.new x 0 ⟨#[]⟩ ⟨#[]⟩ (.slice none 0 0)
  have hlt := h.lt
  have hlen := h.len
  have hlen2 := h.env.len
  obtain ⟨hne, hln⟩ := lists_len (less_fine hf) (k := 38) (by decide) s
  have H0 := Lib.hid (And.intro al (And.intro hb (And.intro hlt (And.intro hne (show (list (lessOf br) 38 s).1.length ≤ 100000 by omega)))))
  have hz : (x.alloc (.cells #[.int .i64 0, .string ⟨#[]⟩, .string ⟨#[]⟩, .slice none 0 0] 25)).heap.size = x.heap.size + 1 := by simp
  have HZ := Lib.hid hz
  clear h al hb hlt hlen hlen2 hne hln hp hf hz
  unfold meetOf
  go_enter Tryd.func42, Tryd.ntmps42
  go_wp2_with fail
  refine HL.out.mono ?_
  rintro e y ⟨v, rfl, h1, h2, h3⟩
  have hlt := H0.out.2.2.1
  have hz := HZ.out
  have hb1 : Box4 x.heap.size 0 ⟨#[]⟩ ⟨#[]⟩ (.slice none 0 0) y := (h3.block x.heap.size (by omega) (by omega)).trans H0.out.2.1
  have HJ := Lib.hid (joined_any h1 H0.out.2.2.2.1 5 H0.out.2.2.2.2)
  have H1 := Lib.hid (And.intro hb1 (And.intro h2 (And.intro h3 (Turns.after_below (F := fun k => k = c.R) H0.out.1 h3))))
  clear h1 h2 h3 hb1 HL
  go_wp2_with fail
  refine HJ.out.mono ?_
  rintro e z ⟨u, rfl, hu, hz2⟩
  have HU := Lib.hid hu
  obtain ⟨no, nc, us, rfl, -⟩ := hu.open
  have hb2 := H1.out.1.on hz2
  have HF := Lib.hid (fun k a b s => fin_node (c := c) (o := o) (x := x) HU.out (by omega) (H1.out.2.1.below hz2) (H1.out.2.2.2.then_below hz2) hlt k a b s)
  have hb3 := Box4.set (k' := (joined 5 (list (lessOf br) 38 s).1).kind) (a' := (joined 5 (list (lessOf br) 38 s).1).ta) (b' := (joined 5 (list (lessOf br) 38 s).1).tb) (s' := .slice no (joined 5 (list (lessOf br) 38 s).1).kids.length nc) hb2
  obtain ⟨d0, d1, d2, d3⟩ := hb2.cells
  have hfz : ∀ i, z.frozen? ⟨x.heap.size, i, none⟩ = false := fun i => Lib.frozen_of_heap hb2 i
  have f0 := hfz 0
  have f1 := hfz 1
  have f2 := hfz 2
  have f3 := hfz 3
  obtain ⟨g0, g1, g2, g3⟩ := hb3.cells
  have HG := Lib.hid (And.intro g0 (And.intro g1 (And.intro g2 g3)))
  clear hu hz2 hb2 hb3 hfz hlt hz H0 H1 HZ HJ HU g0 g1 g2 g3
  generalize (list (lessOf br) 38 s).2 = s2 at *
  generalize joined 5 (list (lessOf br) 38 s).1 = n at *
  go_wp2_with fail
  obtain ⟨g0, g1, g2, g3⟩ := HG.out
  unfold setN at g0 g1 g2 g3
  exact bodyPost_ret (v := node4 n.kind n.ta n.tb (.slice no n.kids.length nc)) (by simp [results, Tryd.results42, go_sem, g0, g1, g2, g3]) rfl ⟨_, rfl, HF.out n.kind n.ta n.tb (.slice no n.kids.length nc)⟩
set_option maxHeartbeats 1000000 in
set_option maxRecDepth 100000 in
theorem union_any {c : Ctx} {o : Nat} {br : P} (hp : Part nodeE c o 42 (meetOf br)) (hf : Fine br) {s : St} {x : World} (h : Rd c o s x) :
    Calls Tryd.prog 20 #[.pointer (some ⟨c.R, 0, none⟩)] x (Out nodeE c o (unionOf br s) x) := by
  have al : Below x.heap.size x (x.alloc (.cells #[.int .i64 0, .string ⟨#[]⟩, .string ⟨#[]⟩, .slice none 0 0] 25)) := (Below.refl _ _).alloc (Nat.le_refl _) _
  have HL := Lib.hid (listN_any hp (meet_fine hf) (k := 124) (by decide) (h.below al))
  have hb := Box4.new x 0 ⟨#[]⟩ ⟨#[]⟩ (.slice none 0 0)
  have hlt := h.lt
  have hlen := h.len
  have hlen2 := h.env.len
  obtain ⟨hne, hln⟩ := lists_len (meet_fine hf) (k := 124) (by decide) s
  have H0 := Lib.hid (And.intro al (And.intro hb (And.intro hlt (And.intro hne (show (list (meetOf br) 124 s).1.length ≤ 100000 by omega)))))
  have hz : (x.alloc (.cells #[.int .i64 0, .string ⟨#[]⟩, .string ⟨#[]⟩, .slice none 0 0] 25)).heap.size = x.heap.size + 1 := by simp
  have HZ := Lib.hid hz
  clear h al hb hlt hlen hlen2 hne hln hp hf hz
  unfold unionOf
  go_enter Tryd.func20, Tryd.ntmps20
  go_wp2_with fail
  refine HL.out.mono ?_
  rintro e y ⟨v, rfl, h1, h2, h3⟩
  have hlt := H0.out.2.2.1
  have hz := HZ.out
  have hb1 : Box4 x.heap.size 0 ⟨#[]⟩ ⟨#[]⟩ (.slice none 0 0) y := (h3.block x.heap.size (by omega) (by omega)).trans H0.out.2.1
  have HJ := Lib.hid (joined_any h1 H0.out.2.2.2.1 4 H0.out.2.2.2.2)
  have H1 := Lib.hid (And.intro hb1 (And.intro h2 (And.intro h3 (Turns.after_below (F := fun k => k = c.R) H0.out.1 h3))))
  clear h1 h2 h3 hb1 HL
  go_wp2_with fail
  refine HJ.out.mono ?_
  rintro e z ⟨u, rfl, hu, hz2⟩
  have HU := Lib.hid hu
  obtain ⟨no, nc, us, rfl, -⟩ := hu.open
  have hb2 := H1.out.1.on hz2
  have HF := Lib.hid (fun k a b s => fin_node (c := c) (o := o) (x := x) HU.out (by omega) (H1.out.2.1.below hz2) (H1.out.2.2.2.then_below hz2) hlt k a b s)
  have hb3 := Box4.set (k' := (joined 4 (list (meetOf br) 124 s).1).kind) (a' := (joined 4 (list (meetOf br) 124 s).1).ta) (b' := (joined 4 (list (meetOf br) 124 s).1).tb) (s' := .slice no (joined 4 (list (meetOf br) 124 s).1).kids.length nc) hb2
  obtain ⟨d0, d1, d2, d3⟩ := hb2.cells
  have hfz : ∀ i, z.frozen? ⟨x.heap.size, i, none⟩ = false := fun i => Lib.frozen_of_heap hb2 i
  have f0 := hfz 0
  have f1 := hfz 1
  have f2 := hfz 2
  have f3 := hfz 3
  obtain ⟨g0, g1, g2, g3⟩ := hb3.cells
  have HG := Lib.hid (And.intro g0 (And.intro g1 (And.intro g2 g3)))
  clear hu hz2 hb2 hb3 hfz hlt hz H0 H1 HZ HJ HU g0 g1 g2 g3
  generalize (list (meetOf br) 124 s).2 = s2 at *
  generalize joined 4 (list (meetOf br) 124 s).1 = n at *
  go_wp2_with fail
  obtain ⟨g0, g1, g2, g3⟩ := HG.out
  unfold setN at g0 g1 g2 g3
  exact bodyPost_ret (v := node4 n.kind n.ta n.tb (.slice no n.kids.length nc)) (by simp [results, Tryd.results20, go_sem, g0, g1, g2, g3]) rfl ⟨_, rfl, HF.out n.kind n.ta n.tb (.slice no n.kids.length nc)⟩
end Gr
end Go.Proofs.YtbphmaoomnocmaaDoor
