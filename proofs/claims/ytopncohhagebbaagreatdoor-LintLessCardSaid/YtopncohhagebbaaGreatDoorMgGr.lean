/-
  Layer 7 (grammar): joined: a node of a row of nodes.
  Layer 7 (grammar): union and meet, out of what stands below them; atom and less, out of brackets.
  Layer 7 (grammar): less, out of atom.
  Layer 7 (grammar): atom and brackets; all of union, by how many brackets may still be opened.
  Layer 7 (grammar): allow.
  Layer 7 (grammar): rel, typ, config. Written by gen/mk_gre.py.
-/
import Derived.Test.YtopncohhagebbaaGreatDoorMgRd
import Derived.Deep.DeepCutAuto
import Derived.Test.YtopncohhagebbaaGreatDoorMgMem
namespace Go.Proofs.YtopncohhagebbaaGreatDoor
open Go.RowKit
namespace Gr
open Knot (Turns NewRow)
open Tr (Nd none0 node4 own_slice RowAt own_open Box4)
open Sg (Tok kt)

theorem cellsV_at {c : Nat} : ∀ {vs : List Value}, (∀ v ∈ vs, v.cells.size = c) → ∀ {i : Nat} {v : Value}, vs[i]? = some v → ∀ j, j < c → (cellsV vs)[i * c + j]? = v.cells[j]?
  | [], _, i, v, h, _, _ => by simp at h
  | u :: vs, hc, 0, v, h, j, hj => by
    obtain rfl : u = v := by simpa using h
    have hs := hc u (by simp)
    rw [cellsV, List.flatMap_cons, Nat.zero_mul, Nat.zero_add, List.getElem?_append_left (by simp [hs]; exact hj)]
    simp
  | u :: vs, hc, i + 1, v, h, j, hj => by
    have hs := hc u (by simp)
    have ih := cellsV_at (vs := vs) (fun v hv => hc v (by simp [hv])) (i := i) (v := v) (by simpa using h) j hj
    have e : (i + 1) * c + j = u.cells.toList.length + (i * c + j) := by
      rw [Array.length_toList, hs, Nat.add_mul, Nat.one_mul]; omega
    rw [cellsV, List.flatMap_cons, e, List.getElem?_append_right (by omega), Nat.add_sub_cancel_left]
    exact ih
theorem NodeS.below {S : Nat → Prop} {w x : World} {n : Nd} {v : Value} (h : NodeS S w n v) (hb : Below w.heap.size w x) : NodeS S x n v := Elt.below (E := nodeE) h hb
theorem RowS.kids {w : World} {B : Nat} {l : List Nd} {ao : Option Addr} {cap : Nat} (h : RowS nodeE w B 47 (.slice ao l.length cap) l) :
    ∃ vs, (l ≠ [] → ∃ g, ao = some ⟨g, 0, none⟩ ∧ B ≤ g ∧ RowAt w 4 g 0 vs) ∧ NodesS (fun g => B ≤ g) w l vs := by
  obtain ⟨vs, h1, h2, h3⟩ := h
  have hsz : ∀ v ∈ vs, v.cells.size = 4 := cellsV_len (E := nodeE) (f := fun g => B ≤ g ∧ (Value.slice ao l.length cap).ownBlock ≠ some g) (w := w) h2 h3
  refine ⟨vs, fun hl => ?_, NodesS.of h2 fun i hi u hu => Elt.mono (E := nodeE) (h3 i l[i] u (List.getElem?_eq_getElem hi) hu) fun g hg _ => hg.1⟩
  have hpos := List.length_pos_iff.2 hl
  rcases h1.2 with ⟨-, h0⟩ | ⟨g, cap', cur, hv, hb, -⟩
  · omega
  · obtain ⟨rfl, -⟩ : ao = some ⟨g, 0, none⟩ ∧ _ := by simpa using hv
    refine ⟨g, rfl, hb, fun i v hv => ⟨hsz v (List.mem_of_getElem? hv), fun j u hu => ?_⟩⟩
    have hj : j < 4 := by
      have := (Array.getElem?_eq_some_iff.1 hu).1
      rwa [hsz v (List.mem_of_getElem? hv)] at this
    have h4 := h1.cells (g := g) rfl (i * 4 + j) u (by rw [cellsV_at hsz hv j hj]; exact hu)
    rw [Tr.addp] at h4
    rwa [Nat.add_assoc]
theorem RowS.node {w : World} {B : Nat} {l : List Nd} {ao : Option Addr} {cap : Nat} (h : RowS nodeE w B 47 (.slice ao l.length cap) l) (k : Int) :
    NodeS (fun g => B ≤ g) w (.mk k none0 none0 l) (node4 k none0 none0 (.slice ao l.length cap)) := by
  obtain ⟨vs, h1, h2⟩ := h.kids
  rw [NodeS]
  refine ⟨ao, cap, vs, rfl, ⟨by decide, by decide⟩, fun hl => ?_, h2⟩
  obtain ⟨g, e, hb, hr⟩ := h1 hl
  exact ⟨g, 0, e, hb, hr⟩
theorem elemNd : Tryz.prog.underlying 45 = some (.slice (Tryz.prog.elem 45)) := by kernel_rfl
theorem sizeNd : ∀ w, (sizeOf (Tryz.prog.elem 45)).run Tryz.prog w = .ok 4 w := fun w => by kernel_rfl
theorem RowS.first {w : World} {B : Nat} {n : Nd} {r : List Nd} {ao : Option Addr} {cap : Nat} (h : RowS nodeE w B 47 (.slice ao (n :: r).length cap) (n :: r)) :
    ∃ g no nc, (∀ W, (Instr.indexAt 45 (.slice ao (n :: r).length cap) (.int .i64 0)).run Tryz.prog W = .ok (.pointer (some ⟨g, 0, none⟩)) W) ∧ g < w.heap.size ∧
      w.cell? ⟨g, 0, none⟩ = some (.int .i64 n.kind) ∧ w.cell? ⟨g, 1, none⟩ = some (.string n.ta) ∧ w.cell? ⟨g, 2, none⟩ = some (.string n.tb) ∧ w.cell? ⟨g, 3, none⟩ = some (.slice no n.kids.length nc) ∧
      NodeS (fun g => B ≤ g) w n (node4 n.kind n.ta n.tb (.slice no n.kids.length nc)) := by
  obtain ⟨vs, h1, h2⟩ := h.kids
  obtain ⟨g, rfl, hb, hr⟩ := h1 (by simp)
  obtain ⟨v, hv, hn⟩ := h2.at (i := 0) (by simp)
  obtain ⟨no, nc, us, rfl, -⟩ := hn.open
  obtain ⟨-, hc⟩ := hr 0 _ hv
  have c0 := hc 0 _ rfl
  refine ⟨g, no, nc, fun W => ?_, World.block_lt_of_cell? w _ c0, c0, hc 1 _ rfl, hc 2 _ rfl, hc 3 _ rfl, hn⟩
  rw [run_indexAt_slice W _ _ _ _ _ _ elemNd, if_pos ⟨by omega, by simp⟩, sizeNd]
  simp only [Result.andThen_ok, Addr.add_lit]
  simp
set_option maxHeartbeats 1000000 in
set_option maxRecDepth 100000 in
theorem joined_any {w : World} {B : Nat} {l : List Nd} {v : Value} (h : RowS nodeE w B 47 v l) (hl : l ≠ []) (k : Int) (hlen : l.length ≤ 100000) :
    Calls Tryz.prog 174 #[.int .i64 k, v] w fun e y => ∃ u, e = .returned u ∧ NodeS (fun g => B ≤ g) y (joined k l) u ∧ Below w.heap.size w y := by
  obtain ⟨ao, cap, rfl⟩ := h.slice
  match l, hl with
  | [n], _ =>
    obtain ⟨g, no, nc, hix, hg, c0, c1, c2, c3, hn⟩ := h.first
    have HN := Lib.hid hn
    have hix' : ∀ W, (Instr.indexAt 45 (.slice ao 1 cap) (.int .i64 0)).run Tryz.prog W = .ok (.pointer (some ⟨g, 0, none⟩)) W := hix
    clear hn h hlen hix
    show Calls _ _ #[.int .i64 k, .slice ao 1 cap] _ _
    go_enter Tryz.func174, Tryz.ntmps174
    go_wp2_with fail
    obtain ⟨b0, b1, b2, b3⟩ := (Box4.new w n.kind n.ta n.tb (.slice no n.kids.length nc)).cells
    have al : Below w.heap.size w (w.alloc (.cells #[.int .i64 n.kind, .string n.ta, .string n.tb, .slice no n.kids.length nc] 47)) := (Below.refl _ _).alloc (Nat.le_refl _) _
    exact bodyPost_ret (v := node4 n.kind n.ta n.tb (.slice no n.kids.length nc)) (by simp [results, Tryz.results174, go_sem, b0, b1, b2, b3]) rfl ⟨_, rfl, HN.out.below al, al⟩
  | n :: m :: r, _ =>
    have hn := h.node k
    have e1 : (((n :: m :: r).length : Int) == 1) = false := by simp; omega
    have HN := Lib.hid hn
    rw [show joined k (n :: m :: r) = .mk k none0 none0 (n :: m :: r) from rfl]
    clear hn h
    generalize hq : (n :: m :: r).length = q at *
    go_enter Tryz.func174, Tryz.ntmps174
    go_wp2_with fail
    obtain ⟨b0, b1, b2, b3⟩ := (Box4.new w k ⟨#[]⟩ ⟨#[]⟩ (.slice ao q cap)).cells
    have al : Below w.heap.size w (w.alloc (.cells #[.int .i64 k, .string ⟨#[]⟩, .string ⟨#[]⟩, .slice ao q cap] 47)) := (Below.refl _ _).alloc (Nat.le_refl _) _
    exact bodyPost_ret (v := node4 k ⟨#[]⟩ ⟨#[]⟩ (.slice ao q cap)) (by simp [results, Tryz.results174, go_sem, b0, b1, b2, b3]) rfl ⟨_, rfl, (show NodeS _ _ _ (node4 k none0 none0 (.slice ao q cap)) from HN.out.below al), al⟩
end Gr
end Go.Proofs.YtopncohhagebbaaGreatDoor

namespace Go.Proofs.YtopncohhagebbaaGreatDoor
open Go.RowKit
namespace Gr
open Knot (Turns NewRow)
open Tr (Nd none0 node4 own_slice RowAt own_open Box4)
open Sg (Tok kt)

theorem enter_less : ∀ args W, (callFunc 182 args).run Tryz.prog W = .ok (.enter 182 args) W := fun args W => by kernel_rfl
theorem enter_meet : ∀ args W, (callFunc 176 args).run Tryz.prog W = .ok (.enter 176 args) W := fun args W => by kernel_rfl
theorem enter_union : ∀ args W, (callFunc 163 args).run Tryz.prog W = .ok (.enter 163 args) W := fun args W => by kernel_rfl

theorem lists_len {p : P} (hf : Fine p) {k : Int} (hk : k ≠ 0) (s : St) : (list p k s).1 ≠ [] ∧ (list p k s).1.length ≤ s.rest.length + 1 := by
  refine ⟨by simp [list], ?_⟩
  have h1 := eachs_len hf hk (p s).2
  have h2 := (hf.suf s).length_le
  simp only [list, List.length_cons]
  omega
def setN (x : World) (R : Nat) (k : Int) (a b : ByteArray) (s : Value) : World := (((x.setCell ⟨R, 0, none⟩ (.int .i64 k)).setCell ⟨R, 1, none⟩ (.string a)).setCell ⟨R, 2, none⟩ (.string b)).setCell ⟨R, 3, none⟩ s
theorem Box4.set {R : Nat} {k k' : Int} {a b a' b' : ByteArray} {s s' : Value} {x : World} (h : Box4 R k a b s x) : Box4 R k' a' b' s' (setN x R k' a' b' s') := by
  have h1 := Lib.heap_setCell_same (i := 0) h (.int .i64 k')
  have h2 := Lib.heap_setCell_same (i := 1) h1 (.string a')
  have h3 := Lib.heap_setCell_same (i := 2) h2 (.string b')
  exact Lib.heap_setCell_same (i := 3) h3 s'
theorem setN_turns {F : Nat → Prop} {w x : World} (h : Turns F w x) {R : Nat} (hR : w.heap.size ≤ R) (k : Int) (a b : ByteArray) (s : Value) : Turns F w (setN x R k a b s) :=
  (((h.setNew (p := ⟨R, 0, none⟩) hR _).setNew (p := ⟨R, 1, none⟩) hR _).setNew (p := ⟨R, 2, none⟩) hR _).setNew (p := ⟨R, 3, none⟩) hR _
theorem setN_own (x : World) (R : Nat) (k : Int) (a b : ByteArray) (s : Value) : Turns (fun g => g = R) x (setN x R k a b s) :=
  (((Turns.refl (fun g => g = R) x).setCell (p := ⟨R, 0, none⟩) rfl _).setCell (p := ⟨R, 1, none⟩) rfl _).setCell (p := ⟨R, 2, none⟩) rfl _ |>.setCell (p := ⟨R, 3, none⟩) rfl _
theorem fin_node {c : Ctx} {o : Nat} {n : Nd} {s' : St} {x z : World} {v : Value} {B : Nat} (hu : NodeS (fun g => B ≤ g) z n v) (hB : x.heap.size < B) (hr : Rd c o s' z) (ht : Turns (fun k => k = c.R) x z) (hR : c.R < x.heap.size) (k : Int) (a b : ByteArray) (s : Value) :
    NodeS (fun g => x.heap.size ≤ g) (setN z x.heap.size k a b s) n v ∧ Rd c o s' (setN z x.heap.size k a b s) ∧ Turns (fun k => k = c.R) x (setN z x.heap.size k a b s) :=
  ⟨hu.turn (setN_own z x.heap.size k a b s) (fun g hg _ e => by omega) fun g hg _ => by omega, hr.turn (setN_own z x.heap.size k a b s) fun g hg e => by omega, setN_turns ht (Nat.le_refl _) k a b s⟩
set_option maxHeartbeats 1000000 in
set_option maxRecDepth 100000 in
theorem meet_any {c : Ctx} {o : Nat} {br : P} (hp : Part nodeE c o 182 (lessOf br)) (hf : Fine br) {s : St} {x : World} (h : Rd c o s x) :
    Calls Tryz.prog 176 #[.pointer (some ⟨c.R, 0, none⟩)] x (Out nodeE c o (meetOf br s) x) := by
  have al : Below x.heap.size x (x.alloc (.cells #[.int .i64 0, .string ⟨#[]⟩, .string ⟨#[]⟩, .slice none 0 0] 47)) := (Below.refl _ _).alloc (Nat.le_refl _) _
  have HL := Lib.hid (listN_any hp (less_fine hf) (k := 38) (by decide) (h.below al))
  have hb := Box4.new x 0 ⟨#[]⟩ ⟨#[]⟩ (.slice none 0 0)
  have hlt := h.lt
  have hlen := h.len
  have hlen2 := h.env.len
  obtain ⟨hne, hln⟩ := lists_len (less_fine hf) (k := 38) (by decide) s
  have H0 := Lib.hid (And.intro al (And.intro hb (And.intro hlt (And.intro hne (show (list (lessOf br) 38 s).1.length ≤ 100000 by omega)))))
  have hz : (x.alloc (.cells #[.int .i64 0, .string ⟨#[]⟩, .string ⟨#[]⟩, .slice none 0 0] 47)).heap.size = x.heap.size + 1 := by simp
  have HZ := Lib.hid hz
  clear h al hb hlt hlen hlen2 hne hln hp hf hz
  unfold meetOf
  go_enter Tryz.func176, Tryz.ntmps176
  go_wp2_with fail
  refine HL.out.mono ?_
  rintro e y ⟨v, rfl, h1, h2, h3⟩
  have hlt := H0.out.2.2.1
  have hz := HZ.out
  have hb1 : Box4 x.heap.size 0 ⟨#[]⟩ ⟨#[]⟩ (.slice none 0 0) y := (h3.block x.heap.size (by omega) (by omega)).trans H0.out.2.1
  have HJ := Lib.hid (joined_any h1 H0.out.2.2.2.1 5 H0.out.2.2.2.2)
  have H1 := Lib.hid (And.intro hb1 (And.intro h2 (And.intro h3 (Turns.after_below (F := fun k => k = c.R) H0.out.1 h3))))
  clear h1 h2 h3 hb1 HL
  go_wp2_with fail
  refine HJ.out.mono ?_
  rintro e z ⟨u, rfl, hu, hz2⟩
  have HU := Lib.hid hu
  obtain ⟨no, nc, us, rfl, -⟩ := hu.open
  have hb2 := H1.out.1.on hz2
  have HF := Lib.hid (fun k a b s => fin_node (c := c) (o := o) (x := x) HU.out (by omega) (H1.out.2.1.below hz2) (H1.out.2.2.2.then_below hz2) hlt k a b s)
  have hb3 := Box4.set (k' := (joined 5 (list (lessOf br) 38 s).1).kind) (a' := (joined 5 (list (lessOf br) 38 s).1).ta) (b' := (joined 5 (list (lessOf br) 38 s).1).tb) (s' := .slice no (joined 5 (list (lessOf br) 38 s).1).kids.length nc) hb2
  obtain ⟨d0, d1, d2, d3⟩ := hb2.cells
  have hfz : ∀ i, z.frozen? ⟨x.heap.size, i, none⟩ = false := fun i => Lib.frozen_of_heap hb2 i
  have f0 := hfz 0
  have f1 := hfz 1
  have f2 := hfz 2
  have f3 := hfz 3
  obtain ⟨g0, g1, g2, g3⟩ := hb3.cells
  have HG := Lib.hid (And.intro g0 (And.intro g1 (And.intro g2 g3)))
  clear hu hz2 hb2 hb3 hfz hlt hz H0 H1 HZ HJ HU g0 g1 g2 g3
  generalize (list (lessOf br) 38 s).2 = s2 at *
  generalize joined 5 (list (lessOf br) 38 s).1 = n at *
  go_wp2_with fail
  obtain ⟨g0, g1, g2, g3⟩ := HG.out
  unfold setN at g0 g1 g2 g3
  exact bodyPost_ret (v := node4 n.kind n.ta n.tb (.slice no n.kids.length nc)) (by simp [results, Tryz.results176, go_sem, g0, g1, g2, g3]) rfl ⟨_, rfl, HF.out n.kind n.ta n.tb (.slice no n.kids.length nc)⟩
set_option maxHeartbeats 1000000 in
set_option maxRecDepth 100000 in
theorem union_any {c : Ctx} {o : Nat} {br : P} (hp : Part nodeE c o 176 (meetOf br)) (hf : Fine br) {s : St} {x : World} (h : Rd c o s x) :
    Calls Tryz.prog 163 #[.pointer (some ⟨c.R, 0, none⟩)] x (Out nodeE c o (unionOf br s) x) := by
  have al : Below x.heap.size x (x.alloc (.cells #[.int .i64 0, .string ⟨#[]⟩, .string ⟨#[]⟩, .slice none 0 0] 47)) := (Below.refl _ _).alloc (Nat.le_refl _) _
  have HL := Lib.hid (listN_any hp (meet_fine hf) (k := 124) (by decide) (h.below al))
  have hb := Box4.new x 0 ⟨#[]⟩ ⟨#[]⟩ (.slice none 0 0)
  have hlt := h.lt
  have hlen := h.len
  have hlen2 := h.env.len
  obtain ⟨hne, hln⟩ := lists_len (meet_fine hf) (k := 124) (by decide) s
  have H0 := Lib.hid (And.intro al (And.intro hb (And.intro hlt (And.intro hne (show (list (meetOf br) 124 s).1.length ≤ 100000 by omega)))))
  have hz : (x.alloc (.cells #[.int .i64 0, .string ⟨#[]⟩, .string ⟨#[]⟩, .slice none 0 0] 47)).heap.size = x.heap.size + 1 := by simp
  have HZ := Lib.hid hz
  clear h al hb hlt hlen hlen2 hne hln hp hf hz
  unfold unionOf
  go_enter Tryz.func163, Tryz.ntmps163
  go_wp2_with fail
  refine HL.out.mono ?_
  rintro e y ⟨v, rfl, h1, h2, h3⟩
  have hlt := H0.out.2.2.1
  have hz := HZ.out
  have hb1 : Box4 x.heap.size 0 ⟨#[]⟩ ⟨#[]⟩ (.slice none 0 0) y := (h3.block x.heap.size (by omega) (by omega)).trans H0.out.2.1
  have HJ := Lib.hid (joined_any h1 H0.out.2.2.2.1 4 H0.out.2.2.2.2)
  have H1 := Lib.hid (And.intro hb1 (And.intro h2 (And.intro h3 (Turns.after_below (F := fun k => k = c.R) H0.out.1 h3))))
  clear h1 h2 h3 hb1 HL
  go_wp2_with fail
  refine HJ.out.mono ?_
  rintro e z ⟨u, rfl, hu, hz2⟩
  have HU := Lib.hid hu
  obtain ⟨no, nc, us, rfl, -⟩ := hu.open
  have hb2 := H1.out.1.on hz2
  have HF := Lib.hid (fun k a b s => fin_node (c := c) (o := o) (x := x) HU.out (by omega) (H1.out.2.1.below hz2) (H1.out.2.2.2.then_below hz2) hlt k a b s)
  have hb3 := Box4.set (k' := (joined 4 (list (meetOf br) 124 s).1).kind) (a' := (joined 4 (list (meetOf br) 124 s).1).ta) (b' := (joined 4 (list (meetOf br) 124 s).1).tb) (s' := .slice no (joined 4 (list (meetOf br) 124 s).1).kids.length nc) hb2
  obtain ⟨d0, d1, d2, d3⟩ := hb2.cells
  have hfz : ∀ i, z.frozen? ⟨x.heap.size, i, none⟩ = false := fun i => Lib.frozen_of_heap hb2 i
  have f0 := hfz 0
  have f1 := hfz 1
  have f2 := hfz 2
  have f3 := hfz 3
  obtain ⟨g0, g1, g2, g3⟩ := hb3.cells
  have HG := Lib.hid (And.intro g0 (And.intro g1 (And.intro g2 g3)))
  clear hu hz2 hb2 hb3 hfz hlt hz H0 H1 HZ HJ HU g0 g1 g2 g3
  generalize (list (meetOf br) 124 s).2 = s2 at *
  generalize joined 4 (list (meetOf br) 124 s).1 = n at *
  go_wp2_with fail
  obtain ⟨g0, g1, g2, g3⟩ := HG.out
  unfold setN at g0 g1 g2 g3
  exact bodyPost_ret (v := node4 n.kind n.ta n.tb (.slice no n.kids.length nc)) (by simp [results, Tryz.results163, go_sem, g0, g1, g2, g3]) rfl ⟨_, rfl, HF.out n.kind n.ta n.tb (.slice no n.kids.length nc)⟩
end Gr
end Go.Proofs.YtopncohhagebbaaGreatDoor

namespace Go.Proofs.YtopncohhagebbaaGreatDoor
open Go.RowKit
namespace Gr
open Knot (Turns NewRow)
open Tr (Nd none0 node4 own_slice RowAt own_open Box4)
open Sg (Tok kt)

theorem row_two {x : World} {g : Nat} {T : TypeId} {a0 a1 a2 a3 b0 b1 b2 b3 : Value} (h : x.heap[g]? = some (.cells #[a0, a1, a2, a3, b0, b1, b2, b3] T (0, 0))) : RowAt x 4 g 0 [.agg #[a0, a1, a2, a3], .agg #[b0, b1, b2, b3]] := by
  intro i v hv
  match i, hv with
  | 0, hv =>
    obtain rfl : Value.agg #[a0, a1, a2, a3] = v := by simpa using hv
    refine ⟨rfl, fun j u hj => ?_⟩
    match j, hj with
    | 0, hj => rw [Lib.cell_of_heap h]; exact hj
    | 1, hj => rw [Lib.cell_of_heap h]; exact hj
    | 2, hj => rw [Lib.cell_of_heap h]; exact hj
    | 3, hj => rw [Lib.cell_of_heap h]; exact hj
    | j + 4, hj => simp [Value.cells] at hj
  | 1, hv =>
    obtain rfl : Value.agg #[b0, b1, b2, b3] = v := by simpa using hv
    refine ⟨rfl, fun j u hj => ?_⟩
    match j, hj with
    | 0, hj => rw [Lib.cell_of_heap h]; exact hj
    | 1, hj => rw [Lib.cell_of_heap h]; exact hj
    | 2, hj => rw [Lib.cell_of_heap h]; exact hj
    | 3, hj => rw [Lib.cell_of_heap h]; exact hj
    | j + 4, hj => simp [Value.cells] at hj
  | i + 2, hv => simp at hv
theorem two_node {x : World} {g cap : Nat} {S : Nat → Prop} {T : TypeId} {k : Int} {n m : Nd} {a0 a1 a2 a3 b0 b1 b2 b3 : Value} (h : x.heap[g]? = some (.cells #[a0, a1, a2, a3, b0, b1, b2, b3] T (0, 0)))
    (hn : NodeS S x n (.agg #[a0, a1, a2, a3])) (hm : NodeS S x m (.agg #[b0, b1, b2, b3])) (hS : S g) : NodeS S x (.mk k none0 none0 [n, m]) (node4 k none0 none0 (.slice (some ⟨g, 0, none⟩) 2 cap)) := by
  rw [NodeS]
  refine ⟨_, _, [.agg #[a0, a1, a2, a3], .agg #[b0, b1, b2, b3]], rfl, ⟨by decide, by decide⟩, fun _ => ⟨g, 0, rfl, hS, row_two h⟩, ?_⟩
  rw [NodesS]
  refine ⟨_, _, rfl, hn, ?_⟩
  rw [NodesS]
  refine ⟨_, _, rfl, hm, ?_⟩
  rw [NodesS]
structure Le (c : Ctx) (o : Nat) (x : World) (n : Nd) (s : St) (R3 : Nat) (ns : Value) (w : World) : Prop where
  rd : Rd c o s w
  res : Box4 x.heap.size 0 ⟨#[]⟩ ⟨#[]⟩ (.slice none 0 0) w
  box : Box4 R3 n.kind n.ta n.tb ns w
  node : NodeS (fun g => x.heap.size < g ∧ g < R3) w n (node4 n.kind n.ta n.tb ns)
  turns : Turns (fun k => k = c.R) x w
  low : c.R < x.heap.size ∧ x.heap.size < R3 ∧ R3 < w.heap.size
theorem Le.turn {c : Ctx} {o : Nat} {x : World} {n : Nd} {s s' : St} {R3 : Nat} {ns : Value} {w y : World} (h : Le c o x n s R3 ns w) (hr : Rd c o s' y) (ht : Turns (fun k => k = c.R) w y) : Le c o x n s' R3 ns y :=
  ⟨hr, (ht.block _ h.res.lt (by have := h.low.1; omega)).trans h.res, (ht.block _ h.box.lt (by have := h.low; omega)).trans h.box, h.node.turn ht (fun g hg _ e => by have := h.low.1; omega) fun g hg _ => hg,
    h.turns.trans ht fun _ _ h => h, ⟨h.low.1, h.low.2.1, Nat.lt_of_lt_of_le h.low.2.2 ht.size⟩⟩

set_option maxHeartbeats 2000000 in
set_option maxRecDepth 100000 in
theorem less_any {c : Ctx} {o : Nat} {br : P} (hp : ∀ s x, Rd c o s x → Calls Tryz.prog 184 #[.pointer (some ⟨c.R, 0, none⟩)] x (Out nodeE c o (atomOf br s) x)) {s : St} {x : World} (h : Rd c o s x) :
    Calls Tryz.prog 182 #[.pointer (some ⟨c.R, 0, none⟩)] x (Out nodeE c o (lessOf br s) x) := by
  have al : Below x.heap.size x (x.alloc (.cells #[.int .i64 0, .string ⟨#[]⟩, .string ⟨#[]⟩, .slice none 0 0] 47)) := (Below.refl _ _).alloc (Nat.le_refl _) _
  have hC := hp s _ (h.below al)
  have hb := Box4.new x 0 ⟨#[]⟩ ⟨#[]⟩ (.slice none 0 0)
  have hz : (x.alloc (.cells #[.int .i64 0, .string ⟨#[]⟩, .string ⟨#[]⟩, .slice none 0 0] 47)).heap.size = x.heap.size + 1 := by simp
  have H0 := Lib.hid (And.intro al (And.intro hb (And.intro h.lt hz)))
  have HP := Lib.hid hp
  have HC := Lib.hid hC
  clear h al hb hp hC hz
  have HQ := Lib.hid (show lessOf br s = if next (atomOf br s).2 = 45 then (.mk 6 none0 none0 [(atomOf br s).1, (atomOf br (tl (atomOf br s).2)).1], (atomOf br (tl (atomOf br s).2)).2) else atomOf br s from rfl)
  generalize lessOf br s = res at *
  generalize atomOf br s = r at *
  obtain ⟨n, s1⟩ := r
  simp only at HQ
  go_enter Tryz.func182, Tryz.ntmps182
  go_wp2_with fail
  refine HC.out.mono ?_
  rintro e y ⟨v, rfl, hv, h1, h2⟩
  have hv' : NodeS (fun g => (x.alloc (.cells #[.int .i64 0, .string ⟨#[]⟩, .string ⟨#[]⟩, .slice none 0 0] 47)).heap.size ≤ g) y n v := hv
  obtain ⟨no, nc, us, rfl, -⟩ := hv'.open
  have al2 : Below y.heap.size y (y.alloc (.cells #[.int .i64 n.kind, .string n.ta, .string n.tb, .slice no n.kids.length nc] 47)) := (Below.refl _ _).alloc (Nat.le_refl _) _
  have hLe : Le c o x n s1 y.heap.size (.slice no n.kids.length nc) (y.alloc (.cells #[.int .i64 n.kind, .string n.ta, .string n.tb, .slice no n.kids.length nc] 47)) := by
    obtain ⟨q1, q2, q3, q4⟩ := H0.out
    have hsz := h2.size
    refine ⟨h1.below al2, (show Box4 x.heap.size 0 ⟨#[]⟩ ⟨#[]⟩ (.slice none 0 0) y from (h2.block x.heap.size (by omega) (by omega)).trans q2).on al2, Box4.new y _ _ _ _, hv'.turn (Turns.of_below (F := fun _ => False) al2) (fun _ _ _ h => h) (fun g hg hl => ⟨by omega, hl⟩), (Turns.after_below q1 h2).then_below al2, q3, by omega, by simp⟩
  have HLe := Lib.hid hLe
  clear hv hv' h1 h2 al2 hLe H0 HC
  go_wp2_with fail
  have hT := take_any HLe.out.rd 45 (by decide)
  generalize y.heap.size = R3 at *
  generalize y.alloc (.cells #[.int .i64 n.kind, .string n.ta, .string n.tb, .slice no n.kids.length nc] 47) = w1 at *
  clear y
  by_cases hn : next s1 = 45
  · rw [if_pos hn, decide_eq_true hn] at hT
    have HQ2 := Lib.hid (HQ.out.trans (if_pos hn))
    clear HQ
    have HT := Lib.hid hT
    clear hT hn
    refine HT.out.mono ?_
    rintro e w2 ⟨rfl, h1, h2⟩
    have HL2 := Lib.hid (HLe.out.turn h1 h2)
    clear h1 h2 HLe HT
    clear w1
    go_wp2_with fail
    have hbd : Below w2.heap.size w2 w2.drew := (Below.refl _ _).drew
    have HL3 := Lib.hid (HL2.out.turn (HL2.out.rd.below hbd) (Turns.of_below hbd))
    have HX := Lib.hid (show ∀ z, Turns (fun k => k = c.R ∨ k = x.heap.size) w2.drew z → z.cell? ⟨R3, 0, none⟩ = some (.int .i64 n.kind) ∧ z.cell? ⟨R3, 1, none⟩ = some (.string n.ta) ∧ z.cell? ⟨R3, 2, none⟩ = some (.string n.tb) ∧ z.cell? ⟨R3, 3, none⟩ = some (.slice no n.kids.length nc) from fun z hz => by
      have hb := HL3.out.box
      have hl := HL3.out.low
      exact Box4.cells ((hz.block R3 hb.lt (by omega)).trans hb))
    clear hbd HL2
    refine Order.region_begin (S := Turns (fun k => k = c.R ∨ k = x.heap.size) w2.drew) (by kernel_rfl) ?_
    refine Order.reads_any (idx := [0, 1]) (by kernel_rfl) (Turns.refl _ _) (fun _ _ _ _ _ h => Order.noPanic_put h) 4 _ _ (by decide +kernel) ?_
    simp only [Order.pick, List.getElem?_toArray, List.getElem?_cons_zero, List.getElem?_cons_succ]
    repeat (first
      | (refine Order.reads_off (by rfl) ?_
         simp only [Act.put, List.setIfInBounds_toArray, List.set_cons_zero, List.set_cons_succ])
      | (apply Order.reads_on
         · rfl
         · intro x hx
           first
             | (go_simp; rfl)
             | (obtain ⟨i0, i1, i2, i3⟩ := HX.out x hx
                go_simp; rfl)
         simp only [Act.put, List.setIfInBounds_toArray, List.set_cons_zero, List.set_cons_succ]))
    refine Order.reads_end ?_
    apply Order.acts_any (R := (Turns (fun k => k = c.R ∨ k = x.heap.size))) (fun h k => h.trans k fun _ _ h => h) (i := 2)
    · rfl
    · decide +kernel
    · rfl
    unfold Oper.wp
    go_simp
    refine Calls.mono (HP.out _ _ HL3.out.rd) ?_
    rintro e w3 ⟨v, rfl, hv, h1, h2⟩
    have hv' : NodeS (fun g => w2.drew.heap.size ≤ g) w3 (atomOf br (tl s1)).1 v := hv
    obtain ⟨mo, mc, us, rfl, -⟩ := hv'.open
    refine ⟨h2.mono fun _ _ h => .inl h, ?_⟩
    have HL4 := Lib.hid (And.intro (HL3.out.turn h1 h2) (And.intro hv' h2))
    clear hv hv' h1 h2 HX HP
    generalize atomOf br (tl s1) = r2 at *
    obtain ⟨m, s2⟩ := r2
    simp only at *
    apply Order.acts_any (R := (Turns (fun k => k = c.R ∨ k = x.heap.size))) (fun h k => h.trans k fun _ _ h => h) (i := 3)
    · rfl
    · decide +kernel
    · rfl
    unfold Oper.wp
    go_simp
    refine ⟨(Turns.refl _ _).alloc _, ?_⟩
    have hrow := heap_alloc_new w3 (.cells #[.int .i64 n.kind, .string n.ta, .string n.tb, .slice no n.kids.length nc, .int .i64 m.kind, .string m.ta, .string m.tb, .slice mo m.kids.length mc] 47)
    have al : Below w3.heap.size w3 (w3.alloc (.cells #[.int .i64 n.kind, .string n.ta, .string n.tb, .slice no n.kids.length nc, .int .i64 m.kind, .string m.ta, .string m.tb, .slice mo m.kids.length mc] 47)) := (Below.refl _ _).alloc (Nat.le_refl _) _
    have hL5 := HL4.out.1.turn (HL4.out.1.rd.below al) (Turns.of_below al)
    have hnode := two_node (k := 6) (cap := 2) (S := fun g => x.heap.size + 1 ≤ g) (n := n) (m := m) hrow (hL5.node.turn (Turns.refl (fun _ => False) _) (fun _ _ _ h => h) fun g hg _ => hg.1)
      (HL4.out.2.1.turn (Turns.of_below (F := fun _ => False) al) (fun _ _ _ h => h) fun g hg _ => by have := HL3.out.low; omega) (by have := hL5.low; have := HL4.out.1.low; omega)
    have HF := Lib.hid (fun k a b s => fin_node (c := c) (o := o) (x := x) hnode (Nat.lt_succ_self _) hL5.rd hL5.turns hL5.low.1 k a b s)
    have hb2 := hL5.res
    have hb3 := Box4.set (k' := 6) (a' := ⟨#[]⟩) (b' := ⟨#[]⟩) (s' := .slice (some ⟨w3.heap.size, 0, none⟩) 2 2) hb2
    obtain ⟨d0, d1, d2, d3⟩ := hb2.cells
    have hfz := fun i => Lib.frozen_of_heap hb2 i
    have f0 := hfz 0
    have f1 := hfz 1
    have f2 := hfz 2
    have f3 := hfz 3
    have HG := Lib.hid hb3.cells
    clear hrow al hL5 hnode hb2 hb3 hfz HL4 HL3
    generalize w3.heap.size = R4 at *
    generalize w3.alloc (.cells #[.int .i64 n.kind, .string n.ta, .string n.tb, .slice no n.kids.length nc, .int .i64 m.kind, .string m.ta, .string m.tb, .slice mo m.kids.length mc] 47) = w4 at *
    clear w3
    refine Order.reads_any (idx := [4]) (by kernel_rfl) (Turns.refl _ _) (fun _ _ _ _ _ h => Order.noPanic_put h) 1 _ _ (by decide +kernel) ?_
    simp only [Order.pick, List.getElem?_toArray, List.getElem?_cons_zero, List.getElem?_cons_succ]
    repeat (first
      | (refine Order.reads_off (by rfl) ?_
         simp only [Act.put, List.setIfInBounds_toArray, List.set_cons_zero, List.set_cons_succ])
      | (apply Order.reads_on
         · rfl
         · intro x hx
           first
             | (go_simp; rfl)
             | (fail
                go_simp; rfl)
         simp only [Act.put]))
    refine Order.reads_end ?_
    apply Order.acts_any (R := (Turns (fun k => k = c.R ∨ k = x.heap.size))) (fun h k => h.trans k fun _ _ h => h) (i := 5)
    · rfl
    · decide +kernel
    · rfl
    unfold Oper.wp
    go_simp
    refine ⟨(setN_own w4 x.heap.size 6 ⟨#[]⟩ ⟨#[]⟩ (.slice (some ⟨R4, 0, none⟩) 2 2)).mono fun _ _ h => .inr h, ?_⟩
    refine wpAnyH_done (by decide +kernel) ?_ _
    refine NoPanic.normal ?_
    go_wp2_with fail
    obtain ⟨g0, g1, g2, g3⟩ := HG.out
    unfold setN at g0 g1 g2 g3
    exact bodyPost_ret (v := node4 6 none0 none0 (.slice (some ⟨R4, 0, none⟩) 2 2)) (by simp [results, Tryz.results182, go_sem, g0, g1, g2, g3, none0]) rfl ⟨_, rfl, by rw [HQ2.out]; exact HF.out 6 ⟨#[]⟩ ⟨#[]⟩ (.slice (some ⟨R4, 0, none⟩) 2 2)⟩
  · rw [if_neg hn, decide_eq_false hn] at hT
    have HQ2 := Lib.hid (HQ.out.trans (if_neg hn))
    have HT := Lib.hid hT
    clear hT hn HQ
    refine HT.out.mono ?_
    rintro e w2 ⟨rfl, h1, h2⟩
    have hL5 := HLe.out.turn h1 h2
    have HF := Lib.hid (fun k a b s => fin_node (c := c) (o := o) (x := x) (B := x.heap.size + 1) (hL5.node.turn (Turns.refl (fun _ => False) _) (fun _ _ _ h => h) fun g hg _ => hg.1) (Nat.lt_succ_self _) hL5.rd hL5.turns hL5.low.1 k a b s)
    have hb2 := hL5.res
    have hb3 := Box4.set (k' := n.kind) (a' := n.ta) (b' := n.tb) (s' := .slice no n.kids.length nc) hb2
    obtain ⟨d0, d1, d2, d3⟩ := hb2.cells
    obtain ⟨e0, e1, e2, e3⟩ := hL5.box.cells
    have hfz := fun i => Lib.frozen_of_heap hb2 i
    have f0 := hfz 0
    have f1 := hfz 1
    have f2 := hfz 2
    have f3 := hfz 3
    have HG := Lib.hid hb3.cells
    clear hL5 hb2 hb3 hfz HLe HT h1 h2 HP
    go_wp2_with fail
    obtain ⟨g0, g1, g2, g3⟩ := HG.out
    unfold setN at g0 g1 g2 g3
    exact bodyPost_ret (v := node4 n.kind n.ta n.tb (.slice no n.kids.length nc)) (by simp [results, Tryz.results182, go_sem, g0, g1, g2, g3]) rfl ⟨_, rfl, by rw [HQ2.out]; exact HF.out n.kind n.ta n.tb (.slice no n.kids.length nc)⟩
end Gr
end Go.Proofs.YtopncohhagebbaaGreatDoor

namespace Go.Proofs.YtopncohhagebbaaGreatDoor
open Go.RowKit
namespace Gr
open Knot (Turns NewRow)
open Tr (Nd none0 node4 own_slice RowAt own_open Box4)
open Sg (Tok kt)

theorem leaf {S : Nat → Prop} {x : World} {k : Int} {a b : ByteArray} (ha : a.size ≤ maxLen) (hb : b.size ≤ maxLen) : NodeS S x (.mk k a b []) (node4 k a b (.slice none 0 0)) := by
  rw [NodeS]
  refine ⟨none, 0, [], rfl, ⟨ha, hb⟩, fun h => absurd rfl h, ?_⟩
  rw [NodesS]
theorem word_short {s : St} (h : Short s.rest) : (word s).1.size ≤ maxLen := by
  rw [word]
  split
  · rename_i hn
    obtain ⟨-, t, r, hr, -⟩ := next_good (s := s) (by rw [hn]; decide)
    rw [hr]
    have := h t (by rw [hr]; simp)
    show (Sg.txt t.2).size ≤ maxLen
    unfold maxLen
    simp [Sg.txt, ByteArray.size]
    omega
  · show none0.size ≤ maxLen
    decide
structure At (c : Ctx) (o : Nat) (x : World) (s : St) (w : World) : Prop where
  rd : Rd c o s w
  res : Box4 x.heap.size 0 ⟨#[]⟩ ⟨#[]⟩ (.slice none 0 0) w
  turns : Turns (fun k => k = c.R) x w
  low : c.R < x.heap.size
theorem At.turn {c : Ctx} {o o' : Nat} {x : World} {s s' : St} {w y : World} (h : At c o x s w) (hr : Rd c o' s' y) (ht : Turns (fun k => k = c.R) w y) : At c o' x s' y :=
  ⟨hr, (ht.block _ h.res.lt (by have := h.low; omega)).trans h.res, h.turns.trans ht fun _ _ h => h, h.low⟩
theorem At.fin {c : Ctx} {o : Nat} {x : World} {s : St} {w : World} (h : At c o x s w) {n : Nd} {v : Value} (hn : NodeS (fun g => x.heap.size + 1 ≤ g) w n v) (k : Int) (a b : ByteArray) (sl : Value) :
    NodeS (fun g => x.heap.size ≤ g) (setN w x.heap.size k a b sl) n v ∧ Rd c o s (setN w x.heap.size k a b sl) ∧ Turns (fun g => g = c.R) x (setN w x.heap.size k a b sl) :=
  fin_node hn (Nat.lt_succ_self _) h.rd h.turns h.low k a b sl
set_option maxHeartbeats 4000000 in
set_option maxRecDepth 100000 in
theorem atom_any {c : Ctx} {o : Nat} {br : P} (hb : ∀ s x, Rd c o s x → next s = 40 → Calls Tryz.prog 186 #[.pointer (some ⟨c.R, 0, none⟩)] x (Out nodeE c o (br s) x)) {s : St} {x : World} (h : Rd c o s x) :
    Calls Tryz.prog 184 #[.pointer (some ⟨c.R, 0, none⟩)] x (Out nodeE c o (atomOf br s) x) := by
  have al : Below x.heap.size x (x.alloc (.cells #[.int .i64 0, .string ⟨#[]⟩, .string ⟨#[]⟩, .slice none 0 0] 47)) := (Below.refl _ _).alloc (Nat.le_refl _) _
  have hA : At c o x s (x.alloc (.cells #[.int .i64 0, .string ⟨#[]⟩, .string ⟨#[]⟩, .slice none 0 0] 47)) := ⟨h.below al, Box4.new x _ _ _ _, Turns.of_below al, h.lt⟩
  have hz : (x.alloc (.cells #[.int .i64 0, .string ⟨#[]⟩, .string ⟨#[]⟩, .slice none 0 0] 47)).heap.size = x.heap.size + 1 := by simp
  have HZ := Lib.hid hz
  have HA := Lib.hid hA
  have HB := Lib.hid hb
  have HS := Lib.hid h.short
  have HQ := Lib.hid (show atomOf br s = if next s = 4 then (.mk 1 none0 none0 [], tl s) else if next s = 40 then br s else if next (word s).2 = 5 then (.mk 3 (word s).1 (word (tl (word s).2)).1 [], (word (tl (word s).2)).2) else (.mk 2 (word s).1 none0 [], (word s).2) from rfl)
  clear h al hA hb hz
  generalize atomOf br s = res at *
  go_enter Tryz.func184, Tryz.ntmps184
  go_wp2_with fail
  have hT := take_any HA.out.rd 4 (by decide)
  generalize x.alloc (.cells #[.int .i64 0, .string ⟨#[]⟩, .string ⟨#[]⟩, .slice none 0 0] 47) = w1 at *
  by_cases h4 : next s = 4
  · have HQ2 := Lib.hid (HQ.out.trans (if_pos h4))
    rw [if_pos h4, decide_eq_true h4] at hT
    have HT := Lib.hid hT
    clear hT HQ HB h4
    refine HT.out.mono ?_
    rintro e w2 ⟨rfl, h1, h2⟩
    have hA := HA.out.turn h1 h2
    have HF := Lib.hid (fun k a b s => hA.fin (n := .mk 1 none0 none0 []) (v := node4 1 none0 none0 (.slice none 0 0)) (leaf (by decide) (by decide)) k a b s)
    have hb2 := hA.res
    have hb3 := Box4.set (k' := 1) (a' := ⟨#[]⟩) (b' := ⟨#[]⟩) (s' := .slice none 0 0) hb2
    obtain ⟨d0, d1, d2, d3⟩ := hb2.cells
    have hfz := fun i => Lib.frozen_of_heap hb2 i
    have f0 := hfz 0
    have f1 := hfz 1
    have f2 := hfz 2
    have f3 := hfz 3
    have HG := Lib.hid hb3.cells
    clear hA hb2 hb3 hfz HA HT h1 h2 HZ
    go_wp2_with fail
    obtain ⟨g0, g1, g2, g3⟩ := HG.out
    unfold setN at g0 g1 g2 g3
    exact bodyPost_ret (v := node4 1 none0 none0 (.slice none 0 0)) (by simp [results, Tryz.results184, go_sem, g0, g1, g2, g3, none0]) rfl ⟨_, rfl, by rw [HQ2.out]; exact HF.out 1 ⟨#[]⟩ ⟨#[]⟩ (.slice none 0 0)⟩
  · have HQ2 := Lib.hid (HQ.out.trans (if_neg h4))
    rw [if_neg h4, decide_eq_false h4] at hT
    have HT := Lib.hid hT
    clear hT HQ h4
    refine HT.out.mono ?_
    rintro e w2 ⟨rfl, h1, h2⟩
    have HA2 := Lib.hid (And.intro (HA.out.turn h1 h2) (show w1.heap.size ≤ w2.heap.size from h2.size))
    have hN := next_any h1
    have HW := Lib.hid (word_any h1)
    clear h1 h2 HA HT
    by_cases h40 : next s = 40
    · have HQ3 := Lib.hid (HQ2.out.trans (if_pos h40))
      rw [h40] at hN
      have HN := Lib.hid hN
      have HC := Lib.hid (HB.out s w2 HA2.out.1.rd h40)
      clear hN HW HQ2 HB h40
      go_wp2_with (go_at_call 92; refine HN.out.mono ?_; rintro e y ⟨rfl, rfl⟩)
      refine HC.out.mono ?_
      rintro e z ⟨u, rfl, hu, h3, h5⟩
      rw [← HQ3.out] at hu h3
      have hu' : NodeS (fun g => y.heap.size ≤ g) z res.1 u := hu
      obtain ⟨no, nc, us, rfl, -⟩ := hu'.open
      have hA := HA2.out.1.turn h3 h5
      have HF := Lib.hid (fun k a b s => hA.fin (hu'.turn (Turns.refl (fun _ => False) _) (fun _ _ _ h => h) fun g hg _ => by have := HA2.out.2; have := HZ.out; omega) k a b s)
      have hb2 := hA.res
      have hb3 := Box4.set (k' := res.1.kind) (a' := res.1.ta) (b' := res.1.tb) (s' := .slice no res.1.kids.length nc) hb2
      obtain ⟨d0, d1, d2, d3⟩ := hb2.cells
      have hfz := fun i => Lib.frozen_of_heap hb2 i
      have f0 := hfz 0
      have f1 := hfz 1
      have f2 := hfz 2
      have f3 := hfz 3
      have HG := Lib.hid hb3.cells
      clear hA hb2 hb3 hfz HA2 HC h3 h5 HZ hu hu' HQ3 HN
      obtain ⟨n, s2⟩ := res
      simp only at *
      go_wp2_with fail
      obtain ⟨g0, g1, g2, g3⟩ := HG.out
      unfold setN at g0 g1 g2 g3
      exact bodyPost_ret (v := node4 n.kind n.ta n.tb (.slice no n.kids.length nc)) (by simp [results, Tryz.results184, go_sem, g0, g1, g2, g3]) rfl ⟨_, rfl, HF.out n.kind n.ta n.tb (.slice no n.kids.length nc)⟩
    · have HQ3 := Lib.hid (HQ2.out.trans (if_neg h40))
      have e40 : ((next s) == 40) = false := by simpa using h40
      have HN := Lib.hid hN
      have hw1 := word_short HS.out
      have hsh2 : Short (word s).2.rest := fun t ht => HS.out t ((word_fine.suf s).subset ht)
      have HS2 := Lib.hid (And.intro hw1 hsh2)
      clear hN HQ2 HB h40 HS hw1 hsh2
      generalize next s = nx at *
      go_wp2_with (go_at_call 92; refine HN.out.mono ?_; rintro e y ⟨rfl, rfl⟩)
      refine HW.out.mono ?_
      rintro e w3 ⟨rfl, h1, h2⟩
      have HA3 := Lib.hid (HA2.out.1.turn h1 h2)
      have hT := take_any h1 5 (by decide)
      clear h1 h2 HA2 HW HN e40
      go_wp2_with fail
      by_cases h5 : next (word s).2 = 5
      · have HQ4 := Lib.hid (HQ3.out.trans (if_pos h5))
        rw [if_pos h5, decide_eq_true h5] at hT
        have hsh3 : Short (tl (word s).2).rest := fun t ht => HS2.out.2 t ((tl_suf _).subset ht)
        have hw3 := word_short hsh3
        have HS3 := Lib.hid (And.intro HS2.out.1 hw3)
        have HT := Lib.hid hT
        clear hT h5 HQ3 hsh3 hw3 HS2
        generalize tl (word s).2 = s3 at *
        generalize (word s).1 = A at *
        refine HT.out.mono ?_
        rintro e w4 ⟨rfl, h1, h2⟩
        have HA4 := Lib.hid (HA3.out.turn h1 h2)
        have HW2 := Lib.hid (word_any h1)
        clear h1 h2 HT HA3
        go_wp2_with fail
        refine HW2.out.mono ?_
        rintro e w5 ⟨rfl, h1, h2⟩
        have hA := HA4.out.turn h1 h2
        clear h1 h2 HA4 HW2
        generalize (word s3).1 = B at *
        generalize (word s3).2 = s4 at *
        have HF := Lib.hid (fun k a b s => hA.fin (n := .mk 3 A B []) (v := node4 3 A B (.slice none 0 0)) (leaf HS3.out.1 HS3.out.2) k a b s)
        have hb2 := hA.res
        have hb3 := Box4.set (k' := 3) (a' := A) (b' := B) (s' := .slice none 0 0) hb2
        obtain ⟨d0, d1, d2, d3⟩ := hb2.cells
        have hfz := fun i => Lib.frozen_of_heap hb2 i
        have f0 := hfz 0
        have f1 := hfz 1
        have f2 := hfz 2
        have f3 := hfz 3
        have HG := Lib.hid hb3.cells
        clear hA hb2 hb3 hfz HZ HS3
        go_wp2_with fail
        obtain ⟨g0, g1, g2, g3⟩ := HG.out
        unfold setN at g0 g1 g2 g3
        exact bodyPost_ret (v := node4 3 A B (.slice none 0 0)) (by simp [results, Tryz.results184, go_sem, g0, g1, g2, g3]) rfl ⟨_, rfl, by rw [HQ4.out]; exact HF.out 3 A B (.slice none 0 0)⟩
      · have HQ4 := Lib.hid (HQ3.out.trans (if_neg h5))
        rw [if_neg h5, decide_eq_false h5] at hT
        have HT := Lib.hid hT
        clear hT h5 HQ3
        generalize (word s).2 = s3 at *
        generalize (word s).1 = A at *
        refine HT.out.mono ?_
        rintro e w4 ⟨rfl, h1, h2⟩
        have hA := HA3.out.turn h1 h2
        clear h1 h2 HT HA3
        have HF := Lib.hid (fun k a b s => hA.fin (n := .mk 2 A none0 []) (v := node4 2 A none0 (.slice none 0 0)) (leaf HS2.out.1 (by decide)) k a b s)
        have hb2 := hA.res
        have hb3 := Box4.set (k' := 2) (a' := A) (b' := ⟨#[]⟩) (s' := .slice none 0 0) hb2
        obtain ⟨d0, d1, d2, d3⟩ := hb2.cells
        have hfz := fun i => Lib.frozen_of_heap hb2 i
        have f0 := hfz 0
        have f1 := hfz 1
        have f2 := hfz 2
        have f3 := hfz 3
        have HG := Lib.hid hb3.cells
        clear hA hb2 hb3 hfz HZ HS2
        go_wp2_with fail
        obtain ⟨g0, g1, g2, g3⟩ := HG.out
        unfold setN at g0 g1 g2 g3
        exact bodyPost_ret (v := node4 2 A none0 (.slice none 0 0)) (by simp [results, Tryz.results184, go_sem, g0, g1, g2, g3, none0]) rfl ⟨_, rfl, by rw [HQ4.out]; exact HF.out 2 A ⟨#[]⟩ (.slice none 0 0)⟩
theorem open_set {c : Ctx} {o o' : Nat} {s : St} {x : World} (h : Rd c o s x) : Rd c o' s (x.setCell ⟨c.R, 3, none⟩ (.int .i64 (o' : Nat))) := by
  obtain ⟨ao, cap, hb, h1, h2⟩ := h.box
  exact ⟨⟨ao, cap, rdb_open hb o', h1, h2⟩, h.suf, h.env.own (set_turns x 3 _)⟩
theorem Rd.opn {c : Ctx} {o : Nat} {s : St} {x : World} (h : Rd c o s x) : x.cell? ⟨c.R, 3, none⟩ = some (.int .i64 (o : Nat)) ∧ x.frozen? ⟨c.R, 3, none⟩ = false := by
  obtain ⟨ao, cap, hb, -⟩ := h.box
  exact ⟨(rdb_cells hb).2.2.2.1, rdb_free hb 3⟩
set_option maxHeartbeats 4000000 in
set_option maxRecDepth 100000 in
theorem deep_any {c : Ctx} {s : St} {x : World} (h : Rd c 8 s x) :
    Calls Tryz.prog 186 #[.pointer (some ⟨c.R, 0, none⟩)] x (Out nodeE c 8 (brk 0 s) x) := by
  have al : Below x.heap.size x (x.alloc (.cells #[.int .i64 0, .string ⟨#[]⟩, .string ⟨#[]⟩, .slice none 0 0] 47)) := (Below.refl _ _).alloc (Nat.le_refl _) _
  have hA : At c 8 x s (x.alloc (.cells #[.int .i64 0, .string ⟨#[]⟩, .string ⟨#[]⟩, .slice none 0 0] 47)) := ⟨h.below al, Box4.new x _ _ _ _, Turns.of_below al, h.lt⟩
  have HA := Lib.hid hA
  obtain ⟨c3, -⟩ := hA.rd.opn
  have g1 := hA.rd.g1
  have hC := fail_any hA.rd (n := 12) (by decide)
  have HQ := Lib.hid (show brk 0 s = (.mk 0 none0 none0 [], fail s 12) from rfl)
  clear h al hA
  generalize brk 0 s = res at *
  go_enter Tryz.func186, Tryz.ntmps186
  go_wp2_with fail
  have HC := Lib.hid hC
  clear hC
  generalize x.alloc (.cells #[.int .i64 0, .string ⟨#[]⟩, .string ⟨#[]⟩, .slice none 0 0] 47) = w1 at *
  refine HC.out.mono ?_
  rintro e w2 ⟨rfl, h1, h2⟩
  have hA := HA.out.turn h1 h2
  have HF := Lib.hid (fun k a b s => hA.fin (n := .mk 0 none0 none0 []) (v := node4 0 none0 none0 (.slice none 0 0)) (leaf (by decide) (by decide)) k a b s)
  have hb2 := hA.res
  have hb3 := Box4.set (k' := 0) (a' := ⟨#[]⟩) (b' := ⟨#[]⟩) (s' := .slice none 0 0) hb2
  obtain ⟨d0, d1, d2, d3⟩ := hb2.cells
  have hfz := fun i => Lib.frozen_of_heap hb2 i
  have f0 := hfz 0
  have f1 := hfz 1
  have f2 := hfz 2
  have f3 := hfz 3
  have HG := Lib.hid hb3.cells
  clear hA hb2 hb3 hfz HA HC h1 h2 c3 g1
  go_wp2_with fail
  obtain ⟨g0, g1, g2, g3⟩ := HG.out
  unfold setN at g0 g1 g2 g3
  exact bodyPost_ret (v := node4 0 none0 none0 (.slice none 0 0)) (by simp [results, Tryz.results186, go_sem, g0, g1, g2, g3, none0]) rfl ⟨_, rfl, by rw [HQ.out]; exact HF.out 0 ⟨#[]⟩ ⟨#[]⟩ (.slice none 0 0)⟩
structure Bx (x : World) (n : Nd) (R3 : Nat) (ns : Value) (w : World) : Prop where
  box : Box4 R3 n.kind n.ta n.tb ns w
  node : NodeS (fun g => x.heap.size + 1 ≤ g) w n (node4 n.kind n.ta n.tb ns)
  low : x.heap.size < R3
theorem Bx.turn {c : Ctx} {x : World} {n : Nd} {R3 : Nat} {ns : Value} {w y : World} (h : Bx x n R3 ns w) (hR : c.R < x.heap.size) (ht : Turns (fun k => k = c.R) w y) : Bx x n R3 ns y :=
  ⟨(ht.block _ h.box.lt (by have := h.low; omega)).trans h.box, h.node.turn ht (fun g hg _ e => by omega) fun g hg _ => hg, h.low⟩
set_option maxHeartbeats 4000000 in
set_option maxRecDepth 100000 in
theorem brackets_any {c : Ctx} {o : Nat} {d : Nat} (hu : ∀ s x, Rd c (o + 1) s x → Calls Tryz.prog 163 #[.pointer (some ⟨c.R, 0, none⟩)] x (Out nodeE c (o + 1) (unionOf (brk d) s) x)) (ho : o < 8) {s : St} {x : World} (h : Rd c o s x) :
    Calls Tryz.prog 186 #[.pointer (some ⟨c.R, 0, none⟩)] x (Out nodeE c o (brk (d + 1) s) x) := by
  have al : Below x.heap.size x (x.alloc (.cells #[.int .i64 0, .string ⟨#[]⟩, .string ⟨#[]⟩, .slice none 0 0] 47)) := (Below.refl _ _).alloc (Nat.le_refl _) _
  have hz : (x.alloc (.cells #[.int .i64 0, .string ⟨#[]⟩, .string ⟨#[]⟩, .slice none 0 0] 47)).heap.size = x.heap.size + 1 := by simp
  have HZ := Lib.hid hz
  have hA : At c o x s (x.alloc (.cells #[.int .i64 0, .string ⟨#[]⟩, .string ⟨#[]⟩, .slice none 0 0] 47)) := ⟨h.below al, Box4.new x _ _ _ _, Turns.of_below al, h.lt⟩
  have HA := Lib.hid hA
  have HU := Lib.hid hu
  obtain ⟨c3, -⟩ := hA.rd.opn
  have hC := need_any hA.rd 40 (by decide)
  have HQ := Lib.hid (show brk (d + 1) s = ((unionOf (brk d) (need s 40)).1, need (unionOf (brk d) (need s 40)).2 41) from rfl)
  have e8 : ((o : Int) == 8) = false := by simp; omega
  clear h al hA hu hz
  generalize brk (d + 1) s = res at *
  go_enter Tryz.func186, Tryz.ntmps186
  go_wp2_with fail
  have HC := Lib.hid hC
  clear hC e8 c3
  generalize x.alloc (.cells #[.int .i64 0, .string ⟨#[]⟩, .string ⟨#[]⟩, .slice none 0 0] 47) = w1 at *
  refine HC.out.mono ?_
  rintro e w2 ⟨rfl, h1, h2⟩
  obtain ⟨c3, f3⟩ := h1.opn
  have hA := (HA.out.turn h1 h2).turn (open_set (o' := o + 1) h1) (set_turns w2 3 _)
  have HA2 := Lib.hid (And.intro hA (show w1.heap.size ≤ (w2.setCell ⟨c.R, 3, none⟩ (.int .i64 ((o + 1 : Nat) : Int))).heap.size by have := h2.size; simpa [World.setCell] using this))
  have hw : IntKind.wrap .i64 ((o : Int) + 1) = ((o + 1 : Nat) : Int) := by
    rw [IntKind.wrap_i64] <;> omega
  have e1 : ((o + 1 : Nat) : Int) = (o : Int) + 1 := by omega
  rw [e1] at HA2
  clear h1 h2 hA HA HC e1
  generalize need s 40 = s1 at *
  go_wp2_with fail
  have HC := Lib.hid (HU.out s1 _ HA2.out.1.rd)
  clear hw c3 f3 HU
  generalize w2.setCell ⟨c.R, 3, none⟩ (.int .i64 ((o : Int) + 1)) = w3 at *
  clear w2
  refine HC.out.mono ?_
  rintro e y ⟨v, rfl, hv, h1, h2⟩
  have hv' : NodeS (fun g => w3.heap.size ≤ g) y (unionOf (brk d) s1).1 v := hv
  obtain ⟨no, nc, us, rfl, -⟩ := hv'.open
  have al : Below y.heap.size y (y.alloc (.cells #[.int .i64 (unionOf (brk d) s1).1.kind, .string (unionOf (brk d) s1).1.ta, .string (unionOf (brk d) s1).1.tb, .slice no (unionOf (brk d) s1).1.kids.length nc] 47)) := (Below.refl _ _).alloc (Nat.le_refl _) _
  have hA := (HA2.out.1.turn h1 h2).turn (h1.below al) (Turns.of_below al)
  have hB : Bx x (unionOf (brk d) s1).1 y.heap.size (.slice no (unionOf (brk d) s1).1.kids.length nc) (y.alloc (.cells #[.int .i64 (unionOf (brk d) s1).1.kind, .string (unionOf (brk d) s1).1.ta, .string (unionOf (brk d) s1).1.tb, .slice no (unionOf (brk d) s1).1.kids.length nc] 47)) :=
    ⟨Box4.new y _ _ _ _, hv'.turn (Turns.of_below (F := fun _ => False) al) (fun _ _ _ h => h) fun g hg _ => by have := HA2.out.2; have := HZ.out; omega, by have := h2.size; have := HA2.out.2; have := HZ.out; omega⟩
  have HA3 := Lib.hid (And.intro hA hB)
  clear hv hv' h1 h2 al hA hB HC HA2 HZ
  generalize unionOf (brk d) s1 = r at *
  obtain ⟨n, s2⟩ := r
  simp only at *
  go_wp2_with fail
  generalize y.heap.size = R3 at *
  generalize y.alloc (.cells #[.int .i64 n.kind, .string n.ta, .string n.tb, .slice no n.kids.length nc] 47) = w4 at *
  clear y
  have hC := need_any HA3.out.1.rd 41 (by decide)
  refine hC.mono ?_
  rintro e w5 ⟨rfl, h1, h2⟩
  obtain ⟨c3, f3⟩ := h1.opn
  have hw : IntKind.wrap .i64 (((o + 1 : Nat) : Int) - 1) = (o : Int) := by
    rw [IntKind.wrap_i64] <;> omega
  have hA := (HA3.out.1.turn h1 h2).turn (open_set (o' := o) h1) (set_turns w5 3 _)
  have hB := (HA3.out.2.turn HA3.out.1.low h2).turn HA3.out.1.low (set_turns w5 3 (.int .i64 (o : Nat)))
  have HF := Lib.hid (fun k a b s => hA.fin hB.node k a b s)
  have hb2 := hA.res
  have hb3 := Box4.set (k' := n.kind) (a' := n.ta) (b' := n.tb) (s' := .slice no n.kids.length nc) hb2
  obtain ⟨d0, d1, d2, d3⟩ := hb2.cells
  obtain ⟨e0, e1, e2, e3⟩ := hB.box.cells
  have hfz := fun i => Lib.frozen_of_heap hb2 i
  have f0 := hfz 0
  have f1 := hfz 1
  have f2 := hfz 2
  have f4 := hfz 3
  have HG := Lib.hid hb3.cells
  clear hA hB hb2 hb3 hfz HA3 hC h1 h2
  generalize need s2 41 = s3 at *
  go_wp2_with fail
  obtain ⟨g0, g1, g2, g3⟩ := HG.out
  unfold setN at g0 g1 g2 g3
  exact bodyPost_ret (v := node4 n.kind n.ta n.tb (.slice no n.kids.length nc)) (by simp [results, Tryz.results186, go_sem, g0, g1, g2, g3]) rfl ⟨_, rfl, by rw [HQ.out]; exact HF.out n.kind n.ta n.tb (.slice no n.kids.length nc)⟩
theorem union_any' {c : Ctx} {o : Nat} {br : P} (hf : Fine br) (hb : ∀ s x, Rd c o s x → next s = 40 → Calls Tryz.prog 186 #[.pointer (some ⟨c.R, 0, none⟩)] x (Out nodeE c o (br s) x)) :
    ∀ s x, Rd c o s x → Calls Tryz.prog 163 #[.pointer (some ⟨c.R, 0, none⟩)] x (Out nodeE c o (unionOf br s) x) :=
  fun _ _ h => union_any ⟨enter_meet, fun _ _ h => meet_any ⟨enter_less, fun _ _ h => less_any (fun _ _ h => atom_any hb h) h⟩ hf h⟩ hf h
theorem union_at {c : Ctx} : ∀ (d o : Nat), o + d = 8 → ∀ s x, Rd c o s x → Calls Tryz.prog 163 #[.pointer (some ⟨c.R, 0, none⟩)] x (Out nodeE c o (unionOf (brk d) s) x)
  | 0, o, ho => by
    obtain rfl : o = 8 := by omega
    exact union_any' (brk_fine 0) fun s x h _ => deep_any h
  | d + 1, o, ho => union_any' (brk_fine (d + 1)) fun s x h _ => brackets_any (fun s x h => union_at d (o + 1) (by omega) s x h) (by omega) h
theorem union_part (c : Ctx) : Part nodeE c 0 163 union := ⟨enter_union, fun s x h => union_at 8 0 rfl s x h⟩
end Gr
end Go.Proofs.YtopncohhagebbaaGreatDoor

namespace Go.Proofs.YtopncohhagebbaaGreatDoor
open Go.RowKit
namespace Gr
open Knot (Turns NewRow)
open Tr (Nd none0 node4 own_slice RowAt own_open Box4)
open Sg (Tok kt)

def Box3 (T : TypeId) (R : Nat) (a b d : Value) (x : World) : Prop := x.heap[R]? = some (.cells #[a, b, d] T (0, 0))
section
variable {T : TypeId} {R : Nat} {a b d : Value} {x y : World}
theorem Box3.lt (h : Box3 T R a b d x) : R < x.heap.size := (Array.getElem?_eq_some_iff.1 h).1
theorem Box3.cells (h : Box3 T R a b d x) : x.cell? ⟨R, 0, none⟩ = some a ∧ x.cell? ⟨R, 1, none⟩ = some b ∧ x.cell? ⟨R, 2, none⟩ = some d :=
  ⟨by rw [Lib.cell_of_heap h]; rfl, by rw [Lib.cell_of_heap h]; rfl, by rw [Lib.cell_of_heap h]; rfl⟩
theorem Box3.free (h : Box3 T R a b d x) : x.frozen? ⟨R, 0, none⟩ = false ∧ x.frozen? ⟨R, 1, none⟩ = false ∧ x.frozen? ⟨R, 2, none⟩ = false := ⟨Lib.frozen_of_heap h 0, Lib.frozen_of_heap h 1, Lib.frozen_of_heap h 2⟩
theorem Box3.new (w : World) (T : TypeId) (a b d : Value) : Box3 T w.heap.size a b d (w.alloc (.cells #[a, b, d] T)) := heap_alloc_new w _
theorem Box3.turn {F : Nat → Prop} (h : Box3 T R a b d x) (ht : Turns F x y) (hF : ¬ F R) : Box3 T R a b d y := (ht.block R h.lt hF).trans h
def set3 (x : World) (R : Nat) (a b d : Value) : World := ((x.setCell ⟨R, 0, none⟩ a).setCell ⟨R, 1, none⟩ b).setCell ⟨R, 2, none⟩ d
theorem Box3.set (h : Box3 T R a b d x) (a' b' d' : Value) : Box3 T R a' b' d' (set3 x R a' b' d') :=
  Lib.heap_setCell_same (i := 2) (Lib.heap_setCell_same (i := 1) (Lib.heap_setCell_same (i := 0) h a') b') d'
theorem Box3.set1 (h : Box3 T R a b d x) (b' : Value) : Box3 T R a b' d (x.setCell ⟨R, 1, none⟩ b') := Lib.heap_setCell_same (i := 1) h b'
theorem Box3.set2 (h : Box3 T R a b d x) (d' : Value) : Box3 T R a b d' (x.setCell ⟨R, 2, none⟩ d') := Lib.heap_setCell_same (i := 2) h d'
theorem set3_own (x : World) (R : Nat) (a b d : Value) : Turns (fun g => g = R) x (set3 x R a b d) :=
  ((Turns.refl (fun g => g = R) x).setCell (p := ⟨R, 0, none⟩) rfl _).setCell (p := ⟨R, 1, none⟩) rfl _ |>.setCell (p := ⟨R, 2, none⟩) rfl _
theorem set_own (x : World) (R i : Nat) (v : Value) : Turns (fun g => g = R) x (x.setCell ⟨R, i, none⟩ v) := Turns.setCell (F := fun g => g = R) (Turns.refl _ x) rfl v
end
abbrev tAl : TypeId := 43
structure Aw (c : Ctx) (o : Nat) (x : World) (s : St) (R3 : Nat) (a b d : Value) (w : World) : Prop where
  rd : Rd c o s w
  res : Box3 tAl x.heap.size (.string ⟨#[]⟩) (.string ⟨#[]⟩) (.bool false) w
  box : Box3 tAl R3 a b d w
  turns : Turns (fun k => k = c.R) x w
  low : c.R < x.heap.size ∧ x.heap.size < R3
section
variable {c : Ctx} {o : Nat} {x : World} {s s' : St} {R3 : Nat} {a b d : Value} {w y : World}
theorem Aw.turn (h : Aw c o x s R3 a b d w) (hr : Rd c o s' y) (ht : Turns (fun k => k = c.R) w y) : Aw c o x s' R3 a b d y :=
  ⟨hr, h.res.turn ht (by have := h.low; omega), h.box.turn ht (by have := h.low; omega), h.turns.trans ht fun _ _ h => h, h.low⟩
theorem Aw.put1 (h : Aw c o x s R3 a b d w) (b' : Value) : Aw c o x s R3 a b' d (w.setCell ⟨R3, 1, none⟩ b') :=
  ⟨h.rd.turn (set_own w R3 1 b') fun g hg e => by have := h.low; omega, h.res.turn (set_own w R3 1 b') (by have := h.low; omega), h.box.set1 b',
    h.turns.setNew (p := ⟨R3, 1, none⟩) (by have := h.low; simp only; omega) b', h.low⟩
theorem Aw.put2 (h : Aw c o x s R3 a b d w) (d' : Value) : Aw c o x s R3 a b d' (w.setCell ⟨R3, 2, none⟩ d') :=
  ⟨h.rd.turn (set_own w R3 2 d') fun g hg e => by have := h.low; omega, h.res.turn (set_own w R3 2 d') (by have := h.low; omega), h.box.set2 d',
    h.turns.setNew (p := ⟨R3, 2, none⟩) (by have := h.low; simp only; omega) d', h.low⟩
theorem Aw.fin (h : Aw c o x s R3 a b d w) (a' b' d' : Value) : Rd c o s (set3 w x.heap.size a' b' d') ∧ Turns (fun g => g = c.R) x (set3 w x.heap.size a' b' d') :=
  ⟨h.rd.turn (set3_own w x.heap.size a' b' d') fun g hg e => by have := h.low; omega,
    ((h.turns.setNew (p := ⟨x.heap.size, 0, none⟩) (Nat.le_refl _) a').setNew (p := ⟨x.heap.size, 1, none⟩) (Nat.le_refl _) b').setNew (p := ⟨x.heap.size, 2, none⟩) (Nat.le_refl _) d'⟩
end
set_option maxHeartbeats 4000000 in
set_option maxRecDepth 100000 in
theorem allow_any {c : Ctx} {o : Nat} {s : St} {x : World} (h : Rd c o s x) :
    Calls Tryz.prog 162 #[.pointer (some ⟨c.R, 0, none⟩)] x (Out allowE c o (allow s) x) := by
  have al : Below x.heap.size x (x.alloc (.cells #[.string ⟨#[]⟩, .string ⟨#[]⟩, .bool false] 43)) := (Below.refl _ _).alloc (Nat.le_refl _) _
  have hW := word_any (h.below al)
  have HW := Lib.hid hW
  have hz : (x.alloc (.cells #[.string ⟨#[]⟩, .string ⟨#[]⟩, .bool false] 43)).heap.size = x.heap.size + 1 := by simp
  have H0 := Lib.hid (And.intro al (And.intro (Box3.new x tAl (.string ⟨#[]⟩) (.string ⟨#[]⟩) (.bool false)) (And.intro h.lt hz)))
  have HQ := Lib.hid (show allow s = if next (word s).2 = 35 then (⟨(word s).1, (word (tl (word s).2)).1, false⟩, (word (tl (word s).2)).2) else if next (word s).2 = 58 then (⟨(word s).1, none0, true⟩, need (tl (word s).2) 42) else (⟨(word s).1, none0, false⟩, (word s).2) from rfl)
  clear h al hW hz
  generalize allow s = res at *
  generalize (word s).1 = A at *
  generalize (word s).2 = s1 at *
  go_enter Tryz.func162, Tryz.ntmps162
  go_wp2_with fail
  refine HW.out.mono ?_
  rintro e y ⟨rfl, h1, h2⟩
  have al2 : Below y.heap.size y (y.alloc (.cells #[.string A, .string ⟨#[]⟩, .bool false] 43)) := (Below.refl _ _).alloc (Nat.le_refl _) _
  have hA : Aw c o x s1 y.heap.size (.string A) (.string ⟨#[]⟩) (.bool false) (y.alloc (.cells #[.string A, .string ⟨#[]⟩, .bool false] 43)) := by
    obtain ⟨q1, q2, q3, q4⟩ := H0.out
    have hsz := h2.size
    exact ⟨h1.below al2, (q2.turn h2 (by omega)).turn (Turns.of_below (F := fun _ => False) al2) id, Box3.new y _ _ _ _, (Turns.after_below q1 h2).then_below al2, q3, by omega⟩
  have HA := Lib.hid hA
  clear h1 h2 al2 hA H0 HW
  go_wp2_with fail
  have hT := take_any HA.out.rd 35 (by decide)
  generalize y.heap.size = R3 at *
  generalize y.alloc (.cells #[.string A, .string ⟨#[]⟩, .bool false] 43) = w1 at *
  clear y
  by_cases h35 : next s1 = 35
  · have HQ2 := Lib.hid (HQ.out.trans (if_pos h35))
    rw [if_pos h35, decide_eq_true h35] at hT
    have HT := Lib.hid hT
    clear hT h35 HQ
    refine HT.out.mono ?_
    rintro e w2 ⟨rfl, h1, h2⟩
    have HA2 := Lib.hid (HA.out.turn h1 h2)
    have HW2 := Lib.hid (word_any h1)
    clear h1 h2 HT HA
    generalize tl s1 = s2 at *
    go_wp2_with fail
    refine HW2.out.mono ?_
    rintro e w3 ⟨rfl, h1, h2⟩
    have hA := HA2.out.turn h1 h2
    obtain ⟨d0, d1, d2⟩ := hA.box.cells
    obtain ⟨f0, f1, f2⟩ := hA.box.free
    have hA2 := hA.put1 (.string (word s2).1)
    obtain ⟨i0, i1, i2⟩ := hA2.box.cells
    obtain ⟨j0, j1, j2⟩ := hA2.res.cells
    obtain ⟨k0, k1, k2⟩ := hA2.res.free
    have HF := Lib.hid (And.intro (hA2.fin (.string A) (.string (word s2).1) (.bool false)) (hA2.res.set (.string A) (.string (word s2).1) (.bool false)).cells)
    clear hA hA2 HA2 HW2 h1 h2
    generalize (word s2).1 = B at *
    go_wp2_with fail
    obtain ⟨g0, g1, g2⟩ := HF.out.2
    unfold set3 at g0 g1 g2
    exact bodyPost_ret (v := alV ⟨A, B, false⟩) (by simp [results, Tryz.results162, go_sem, g0, g1, g2]) rfl ⟨_, rfl, by rw [HQ2.out]; exact ⟨rfl, HF.out.1⟩⟩
  · have HQ2 := Lib.hid (HQ.out.trans (if_neg h35))
    rw [if_neg h35, decide_eq_false h35] at hT
    have HT := Lib.hid hT
    clear hT h35 HQ
    refine HT.out.mono ?_
    rintro e w2 ⟨rfl, h1, h2⟩
    have HA2 := Lib.hid (HA.out.turn h1 h2)
    have hT := take_any h1 58 (by decide)
    clear h1 h2 HT HA
    go_wp2_with fail
    by_cases h58 : next s1 = 58
    · have HQ3 := Lib.hid (HQ2.out.trans (if_pos h58))
      rw [if_pos h58, decide_eq_true h58] at hT
      have HT := Lib.hid hT
      clear hT h58 HQ2
      refine HT.out.mono ?_
      rintro e w3 ⟨rfl, h1, h2⟩
      have HA3 := Lib.hid (HA2.out.turn h1 h2)
      have HN := Lib.hid (need_any h1 42 (by decide))
      clear h1 h2 HT HA2
      go_wp2_with fail
      refine HN.out.mono ?_
      rintro e w4 ⟨rfl, h1, h2⟩
      have hA := HA3.out.turn h1 h2
      obtain ⟨d0, d1, d2⟩ := hA.box.cells
      obtain ⟨f0, f1, f2⟩ := hA.box.free
      have hA2 := hA.put2 (.bool true)
      obtain ⟨i0, i1, i2⟩ := hA2.box.cells
      obtain ⟨j0, j1, j2⟩ := hA2.res.cells
      obtain ⟨k0, k1, k2⟩ := hA2.res.free
      have HF := Lib.hid (And.intro (hA2.fin (.string A) (.string ⟨#[]⟩) (.bool true)) (hA2.res.set (.string A) (.string ⟨#[]⟩) (.bool true)).cells)
      clear hA hA2 HA3 HN h1 h2
      go_wp2_with fail
      obtain ⟨g0, g1, g2⟩ := HF.out.2
      unfold set3 at g0 g1 g2
      exact bodyPost_ret (v := alV ⟨A, none0, true⟩) (by simp [results, Tryz.results162, go_sem, g0, g1, g2, none0]) rfl ⟨_, rfl, by rw [HQ3.out]; exact ⟨rfl, HF.out.1⟩⟩
    · have HQ3 := Lib.hid (HQ2.out.trans (if_neg h58))
      rw [if_neg h58, decide_eq_false h58] at hT
      have HT := Lib.hid hT
      clear hT h58 HQ2
      refine HT.out.mono ?_
      rintro e w3 ⟨rfl, h1, h2⟩
      have hA2 := HA2.out.turn h1 h2
      obtain ⟨i0, i1, i2⟩ := hA2.box.cells
      obtain ⟨j0, j1, j2⟩ := hA2.res.cells
      obtain ⟨k0, k1, k2⟩ := hA2.res.free
      have HF := Lib.hid (And.intro (hA2.fin (.string A) (.string ⟨#[]⟩) (.bool false)) (hA2.res.set (.string A) (.string ⟨#[]⟩) (.bool false)).cells)
      clear hA2 HA2 HT h1 h2
      go_wp2_with fail
      obtain ⟨g0, g1, g2⟩ := HF.out.2
      unfold set3 at g0 g1 g2
      exact bodyPost_ret (v := alV ⟨A, none0, false⟩) (by simp [results, Tryz.results162, go_sem, g0, g1, g2, none0]) rfl ⟨_, rfl, by rw [HQ3.out]; exact ⟨rfl, HF.out.1⟩⟩
theorem enter_allow : ∀ args W, (callFunc 162 args).run Tryz.prog W = .ok (.enter 162 args) W := fun args W => by kernel_rfl
theorem allow_part (c : Ctx) : Part allowE c 0 162 allow := ⟨enter_allow, fun _ _ h => allow_any h⟩
end Gr
end Go.Proofs.YtopncohhagebbaaGreatDoor

namespace Go.Proofs.YtopncohhagebbaaGreatDoor
open Go.RowKit
namespace Gr
open Knot (Turns NewRow)
open Tr (Nd none0 node4 own_slice RowAt own_open Box4)
open Sg (Tok kt)

abbrev tRl : TypeId := 49
abbrev tTy : TypeId := 40
abbrev tCf : TypeId := 24
def Box6 (R : Nat) (a b d e f g : Value) (x : World) : Prop := x.heap[R]? = some (.cells #[a, b, d, e, f, g] tRl (0, 0))
section
variable {R : Nat} {a b d e f g : Value} {x y : World}
theorem Box6.cells (h : Box6 R a b d e f g x) : x.cell? ⟨R, 0, none⟩ = some a ∧ x.cell? ⟨R, 1, none⟩ = some b ∧ x.cell? ⟨R, 2, none⟩ = some d ∧ x.cell? ⟨R, 3, none⟩ = some e ∧ x.cell? ⟨R, 4, none⟩ = some f ∧ x.cell? ⟨R, 5, none⟩ = some g :=
  ⟨by rw [Lib.cell_of_heap h]; rfl, by rw [Lib.cell_of_heap h]; rfl, by rw [Lib.cell_of_heap h]; rfl, by rw [Lib.cell_of_heap h]; rfl, by rw [Lib.cell_of_heap h]; rfl, by rw [Lib.cell_of_heap h]; rfl⟩
theorem Box6.free (h : Box6 R a b d e f g x) : x.frozen? ⟨R, 0, none⟩ = false ∧ x.frozen? ⟨R, 1, none⟩ = false ∧ x.frozen? ⟨R, 2, none⟩ = false ∧ x.frozen? ⟨R, 3, none⟩ = false ∧ x.frozen? ⟨R, 4, none⟩ = false ∧ x.frozen? ⟨R, 5, none⟩ = false :=
  ⟨Lib.frozen_of_heap h 0, Lib.frozen_of_heap h 1, Lib.frozen_of_heap h 2, Lib.frozen_of_heap h 3, Lib.frozen_of_heap h 4, Lib.frozen_of_heap h 5⟩
def set6 (x : World) (R : Nat) (a b d e f g : Value) : World := (((((x.setCell ⟨R, 0, none⟩ a).setCell ⟨R, 1, none⟩ b).setCell ⟨R, 2, none⟩ d).setCell ⟨R, 3, none⟩ e).setCell ⟨R, 4, none⟩ f).setCell ⟨R, 5, none⟩ g
theorem Box6.set (h : Box6 R a b d e f g x) (a' b' d' e' f' g' : Value) : Box6 R a' b' d' e' f' g' (set6 x R a' b' d' e' f' g') :=
  Lib.heap_setCell_same (i := 5) (Lib.heap_setCell_same (i := 4) (Lib.heap_setCell_same (i := 3) (Lib.heap_setCell_same (i := 2) (Lib.heap_setCell_same (i := 1) (Lib.heap_setCell_same (i := 0) h a') b') d') e') f') g'
theorem set6_own (x : World) (R : Nat) (a b d e f g : Value) : Turns (fun k => k = R) x (set6 x R a b d e f g) :=
  (set_own x R 0 a).setCell (p := ⟨R, 1, none⟩) rfl _ |>.setCell (p := ⟨R, 2, none⟩) rfl _ |>.setCell (p := ⟨R, 3, none⟩) rfl _ |>.setCell (p := ⟨R, 4, none⟩) rfl _ |>.setCell (p := ⟨R, 5, none⟩) rfl _
end
structure Hs (c : Ctx) (o : Nat) (x : World) (s : St) (cs : Array Value) (T : TypeId) (w : World) : Prop where
  rd : Rd c o s w
  res : w.heap[x.heap.size]? = some (.cells cs T (0, 0))
  turns : Turns (fun k => k = c.R) x w
  low : c.R < x.heap.size
section
variable {c : Ctx} {o : Nat} {x : World} {s s' : St} {cs : Array Value} {T : TypeId} {w y : World}
theorem Hs.lt (h : Hs c o x s cs T w) : x.heap.size < w.heap.size := (Array.getElem?_eq_some_iff.1 h.res).1
theorem Hs.turn (h : Hs c o x s cs T w) (hr : Rd c o s' y) (ht : Turns (fun k => k = c.R) w y) : Hs c o x s' cs T y :=
  ⟨hr, (ht.block _ h.lt (by have := h.low; omega)).trans h.res, h.turns.trans ht fun _ _ h => h, h.low⟩
theorem Hs.start (h : Rd c o s x) (cs : Array Value) (T : TypeId) : Hs c o x s cs T (x.alloc (.cells cs T)) :=
  ⟨h.below ((Below.refl _ _).alloc (Nat.le_refl _) _), heap_alloc_new x _, Turns.of_below ((Below.refl _ _).alloc (Nat.le_refl _) _), h.lt⟩
theorem Hs.fin (h : Hs c o x s cs T w) (ht : Turns (fun g => g = x.heap.size) w y) : Rd c o s y ∧ Turns (fun g => g = c.R) x y :=
  ⟨h.rd.turn ht fun g hg e => by have := h.low; omega, ⟨ht.os.trans h.turns.os, ht.tape.trans h.turns.tape, ht.output.trans h.turns.output, Nat.le_trans h.turns.size ht.size,
    fun k hk hn => (ht.block k (Nat.lt_of_lt_of_le hk h.turns.size) (by omega)).trans (h.turns.block k hk hn)⟩⟩
end
theorem row_al {w y : World} {B : Nat} {v : Value} {l : List Al} {F : Nat → Prop} (h : RowS allowE w B tAl v l) (ht : Turns F w y) (hF : ∀ g, F g → g < B) : RowS allowE y B tAl v l :=
  h.turn ht fun g hg _ e => by have := hF g e; omega
abbrev zR : Array Value := #[.string ⟨#[]⟩, .slice none 0 0, .int .i64 0, .string ⟨#[]⟩, .string ⟨#[]⟩, .slice none 0 0]
theorem rel_is {w : World} {B : Nat} {A : ByteArray} {l : List Al} {n : Nd} {ao no : Option Addr} {cap nc : Nat} (h1 : RowS allowE w (B + 1) tAl (.slice ao l.length cap) l) (h2 : NodeS (fun g => B + 1 ≤ g) w n (node4 n.kind n.ta n.tb (.slice no n.kids.length nc)))
    {y : World} (ht : Turns (fun g => g = B) w y) : RelS (fun g => B ≤ g) y ⟨A, l, n⟩ (relV ⟨A, l, n⟩ (.slice ao l.length cap) (.slice no n.kids.length nc)) :=
  ⟨ao, cap, no, nc, B + 1, rfl, row_al h1 ht fun g hg => by omega, fun k hk => by have := (h1.own_lt hk).1; omega, h2.turn ht (fun g hg _ e => by omega) fun g hg _ => by omega⟩
set_option maxHeartbeats 4000000 in
set_option maxRecDepth 100000 in
theorem rel_any {c : Ctx} {s : St} {x : World} (h : Rd c 0 s x) :
    Calls Tryz.prog 129 #[.pointer (some ⟨c.R, 0, none⟩)] x (Out relE c 0 (rel s) x) := by
  have hA := Hs.start h zR tRl
  have HW := Lib.hid (word_any hA.rd)
  have HA := Lib.hid hA
  have HQ := Lib.hid (show rel s = (⟨(word s).1, (allows (word s).2).1, (union (need (allows (word s).2).2 61)).1⟩, need (union (need (allows (word s).2).2 61)).2 59) from rfl)
  clear h hA
  generalize rel s = res at *
  generalize (word s).1 = A at *
  generalize (word s).2 = s1 at *
  go_enter Tryz.func129, Tryz.ntmps129
  go_wp2_with fail
  generalize x.alloc (.cells #[.string ⟨#[]⟩, .slice none 0 0, .int .i64 0, .string ⟨#[]⟩, .string ⟨#[]⟩, .slice none 0 0] 49) = w1 at *
  refine HW.out.mono ?_
  rintro e w2 ⟨rfl, h1, h2⟩
  have HA2 := Lib.hid (HA.out.turn h1 h2)
  have hT := take_any h1 91 (by decide)
  clear h1 h2 HW HA
  go_wp2_with fail
  by_cases h91 : next s1 = 91
  · have he : allows s1 = ((list allow 44 (tl s1)).1, need (list allow 44 (tl s1)).2 93) := if_pos h91
    rw [he] at HQ
    rw [if_pos h91, decide_eq_true h91] at hT
    have HT := Lib.hid hT
    clear hT h91 he
    refine HT.out.mono ?_
    rintro e w3 ⟨rfl, h1, h2⟩
    have HA3 := Lib.hid (HA2.out.turn h1 h2)
    have HLs := Lib.hid (listA_any (allow_part c) allow_fine (k := 44) (by decide) h1)
    clear h1 h2 HT HA2
    generalize tl s1 = s2 at *
    go_wp2_with fail
    refine HLs.out.mono ?_
    rintro e w4 ⟨v, rfl, hv, h1, h2⟩
    have hrow := hv.mono (C := x.heap.size + 1) (by have := HA3.out.lt; omega)
    obtain ⟨ao, cap, rfl⟩ := hv.slice
    have HA4 := Lib.hid (And.intro (HA3.out.turn h1 h2) hrow)
    have HN := Lib.hid (need_any h1 93 (by decide))
    clear hv hrow h1 h2 HLs HA3
    generalize list allow 44 s2 = r at *
    obtain ⟨l, s3'⟩ := r
    simp only at *
    go_wp2_with fail
    refine HN.out.mono ?_
    rintro e w4' ⟨rfl, h1, h2⟩
    have HA4' := Lib.hid (And.intro (HA4.out.1.turn h1 h2) (row_al HA4.out.2 h2 fun g hg => by have := HA4.out.1.low; omega))
    have HN2 := Lib.hid (need_any h1 61 (by decide))
    clear h1 h2 HN HA4
    have HA4 := HA4'
    clear HA4'
    generalize need s3' 93 = s3 at *
    have HQ2 := HQ
    clear HQ
    go_wp2_with fail
    refine HN2.out.mono ?_
    rintro e w5 ⟨rfl, h1, h2⟩
    have HA5 := Lib.hid (And.intro (HA4.out.1.turn h1 h2) (row_al HA4.out.2 h2 fun g hg => by have := HA4.out.1.low; omega))
    have HU := Lib.hid (union_at 8 0 rfl _ _ h1)
    clear h1 h2 HN2 HA4
    generalize need s3 61 = s4 at *
    go_wp2_with fail
    refine HU.out.mono ?_
    rintro e y ⟨v, rfl, hv, h1, h2⟩
    have hv' : NodeS (fun g => w5.heap.size ≤ g) y (union s4).1 v := hv
    obtain ⟨no, nc, us, rfl, -⟩ := hv'.open
    have al : Below y.heap.size y (y.alloc (.cells #[.int .i64 (union s4).1.kind, .string (union s4).1.ta, .string (union s4).1.tb, .slice no (union s4).1.kids.length nc] 47)) := (Below.refl _ _).alloc (Nat.le_refl _) _
    have h1' : Rd c 0 (union s4).2 y := h1
    have hA := (HA5.out.1.turn h1' h2).turn (h1'.below al) (Turns.of_below al)
    have hrow := row_al (row_al HA5.out.2 h2 fun g hg => by have := HA5.out.1.low; omega) (Turns.of_below (F := fun _ => False) al) fun g hg => hg.elim
    have hB : Bx x (union s4).1 y.heap.size (.slice no (union s4).1.kids.length nc) (y.alloc (.cells #[.int .i64 (union s4).1.kind, .string (union s4).1.ta, .string (union s4).1.tb, .slice no (union s4).1.kids.length nc] 47)) :=
      ⟨Box4.new y _ _ _ _, hv'.turn (Turns.of_below (F := fun _ => False) al) (fun _ _ _ h => h) fun g hg _ => by have := HA5.out.1.lt; omega, by have := h2.size; have := HA5.out.1.lt; omega⟩
    have HA6 := Lib.hid (And.intro hA (And.intro hrow hB))
    have HN3 := Lib.hid (need_any (h1'.below al) 59 (by decide))
    clear hv hv' h1 h1' h2 al hA hrow hB HU HA5
    generalize union s4 = r at *
    obtain ⟨n, s5⟩ := r
    simp only at *
    go_wp2_with fail
    generalize y.heap.size = R3 at *
    generalize y.alloc (.cells #[.int .i64 n.kind, .string n.ta, .string n.tb, .slice no n.kids.length nc] 47) = w6 at *
    clear y
    refine HN3.out.mono ?_
    rintro e w7 ⟨rfl, h1, h2⟩
    have hA := HA6.out.1.turn h1 h2
    have hB := HA6.out.2.2.turn HA6.out.1.low h2
    have hrow := row_al HA6.out.2.1 h2 fun g hg => by have := HA6.out.1.low; omega
    have hres : Box6 x.heap.size _ _ _ _ _ _ w7 := hA.res
    obtain ⟨d0, d1, d2, d3, d4, d5⟩ := hres.cells
    obtain ⟨f0, f1, f2, f3, f4, f5⟩ := hres.free
    obtain ⟨e0, e1, e2, e3⟩ := hB.box.cells
    have hset := set6_own w7 x.heap.size (.string A) (.slice ao l.length cap) (.int .i64 n.kind) (.string n.ta) (.string n.tb) (.slice no n.kids.length nc)
    have HF := Lib.hid (And.intro (rel_is (A := A) hrow hB.node hset) (hA.fin hset))
    have HG := Lib.hid (hres.set (.string A) (.slice ao l.length cap) (.int .i64 n.kind) (.string n.ta) (.string n.tb) (.slice no n.kids.length nc)).cells
    clear hA hB hrow hres hset HA6 HN3 h1 h2
    generalize need s5 59 = s6 at *
    go_wp2_with fail
    obtain ⟨g0, g1, g2, g3, g4, g5⟩ := HG.out
    unfold set6 at g0 g1 g2 g3 g4 g5
    exact bodyPost_ret (v := relV ⟨A, l, n⟩ (.slice ao l.length cap) (.slice no n.kids.length nc)) (by simp [results, Tryz.results129, go_sem, g0, g1, g2, g3, g4, g5]) rfl ⟨_, rfl, by rw [HQ2.out]; exact HF.out⟩
  · have he : allows s1 = ([], s1) := if_neg h91
    rw [he] at HQ
    rw [if_neg h91, decide_eq_false h91] at hT
    have HT := Lib.hid hT
    clear hT h91 he
    refine HT.out.mono ?_
    rintro e w4 ⟨rfl, h1, h2⟩
    have HA4 := Lib.hid (And.intro (HA2.out.turn h1 h2) (RowS.nil allowE w4 (x.heap.size + 1) tAl))
    have HN2 := Lib.hid (need_any h1 61 (by decide))
    clear h1 h2 HT HA2
    have HQ2 := HQ
    clear HQ
    generalize s1 = s3 at *
    go_wp2_with fail
    refine HN2.out.mono ?_
    rintro e w5 ⟨rfl, h1, h2⟩
    have HA5 := Lib.hid (And.intro (HA4.out.1.turn h1 h2) (row_al HA4.out.2 h2 fun g hg => by have := HA4.out.1.low; omega))
    have HU := Lib.hid (union_at 8 0 rfl _ _ h1)
    clear h1 h2 HN2 HA4
    generalize need s3 61 = s4 at *
    go_wp2_with fail
    refine HU.out.mono ?_
    rintro e y ⟨v, rfl, hv, h1, h2⟩
    have hv' : NodeS (fun g => w5.heap.size ≤ g) y (union s4).1 v := hv
    obtain ⟨no, nc, us, rfl, -⟩ := hv'.open
    have al : Below y.heap.size y (y.alloc (.cells #[.int .i64 (union s4).1.kind, .string (union s4).1.ta, .string (union s4).1.tb, .slice no (union s4).1.kids.length nc] 47)) := (Below.refl _ _).alloc (Nat.le_refl _) _
    have h1' : Rd c 0 (union s4).2 y := h1
    have hA := (HA5.out.1.turn h1' h2).turn (h1'.below al) (Turns.of_below al)
    have hrow := row_al (row_al HA5.out.2 h2 fun g hg => by have := HA5.out.1.low; omega) (Turns.of_below (F := fun _ => False) al) fun g hg => hg.elim
    have hB : Bx x (union s4).1 y.heap.size (.slice no (union s4).1.kids.length nc) (y.alloc (.cells #[.int .i64 (union s4).1.kind, .string (union s4).1.ta, .string (union s4).1.tb, .slice no (union s4).1.kids.length nc] 47)) :=
      ⟨Box4.new y _ _ _ _, hv'.turn (Turns.of_below (F := fun _ => False) al) (fun _ _ _ h => h) fun g hg _ => by have := HA5.out.1.lt; omega, by have := h2.size; have := HA5.out.1.lt; omega⟩
    have HA6 := Lib.hid (And.intro hA (And.intro hrow hB))
    have HN3 := Lib.hid (need_any (h1'.below al) 59 (by decide))
    clear hv hv' h1 h1' h2 al hA hrow hB HU HA5
    generalize union s4 = r at *
    obtain ⟨n, s5⟩ := r
    simp only at *
    go_wp2_with fail
    generalize y.heap.size = R3 at *
    generalize y.alloc (.cells #[.int .i64 n.kind, .string n.ta, .string n.tb, .slice no n.kids.length nc] 47) = w6 at *
    clear y
    refine HN3.out.mono ?_
    rintro e w7 ⟨rfl, h1, h2⟩
    have hA := HA6.out.1.turn h1 h2
    have hB := HA6.out.2.2.turn HA6.out.1.low h2
    have hrow := row_al HA6.out.2.1 h2 fun g hg => by have := HA6.out.1.low; omega
    have hres : Box6 x.heap.size _ _ _ _ _ _ w7 := hA.res
    obtain ⟨d0, d1, d2, d3, d4, d5⟩ := hres.cells
    obtain ⟨f0, f1, f2, f3, f4, f5⟩ := hres.free
    obtain ⟨e0, e1, e2, e3⟩ := hB.box.cells
    have hset := set6_own w7 x.heap.size (.string A) (.slice none 0 0) (.int .i64 n.kind) (.string n.ta) (.string n.tb) (.slice no n.kids.length nc)
    have HF := Lib.hid (And.intro (rel_is (A := A) hrow hB.node hset) (hA.fin hset))
    have HG := Lib.hid (hres.set (.string A) (.slice none 0 0) (.int .i64 n.kind) (.string n.ta) (.string n.tb) (.slice no n.kids.length nc)).cells
    clear hA hB hrow hres hset HA6 HN3 h1 h2
    generalize need s5 59 = s6 at *
    go_wp2_with fail
    obtain ⟨g0, g1, g2, g3, g4, g5⟩ := HG.out
    unfold set6 at g0 g1 g2 g3 g4 g5
    exact bodyPost_ret (v := relV ⟨A, [], n⟩ (.slice none 0 0) (.slice no n.kids.length nc)) (by simp [results, Tryz.results129, go_sem, g0, g1, g2, g3, g4, g5]) rfl ⟨_, rfl, by rw [HQ2.out]; exact HF.out⟩
theorem enter_rel : ∀ args W, (callFunc 129 args).run Tryz.prog W = .ok (.enter 129 args) W := fun args W => by kernel_rfl
theorem rel_part (c : Ctx) : Part relE c 0 129 rel := ⟨enter_rel, fun _ _ h => rel_any h⟩

theorem ty_is {w : World} {B : Nat} {A : ByteArray} {l : List Rl} {ao : Option Addr} {cap : Nat} (h1 : RowS relE w (B + 1) tRl (.slice ao l.length cap) l)
    {y : World} (ht : Turns (fun g => g = B) w y) : TyS (fun g => B ≤ g) y ⟨A, l⟩ (tyV ⟨A, l⟩ (.slice ao l.length cap)) := by
  have h2 : RowS relE y (B + 1) tRl (.slice ao l.length cap) l := h1.turn ht fun g hg _ e => by omega
  obtain ⟨vs, o1, o2, o3⟩ := h2
  exact ⟨ao, cap, vs, B + 1, rfl, o1, o2, fun k hk => by have := (o1.lt k hk).1; omega, fun i a u hi hu => Elt.mono (E := relE) (o3 i a u hi hu) fun g hg _ => by have := hg.1; omega⟩
set_option maxHeartbeats 4000000 in
set_option maxRecDepth 100000 in
theorem typ_any {c : Ctx} {s : St} {x : World} (h : Rd c 0 s x) :
    Calls Tryz.prog 97 #[.pointer (some ⟨c.R, 0, none⟩)] x (Out tyE c 0 (typ s) x) := by
  have hA := Hs.start h #[.string ⟨#[]⟩, .slice none 0 0] tTy
  have HW := Lib.hid (word_any hA.rd)
  have HA := Lib.hid hA
  have HQ := Lib.hid (show typ s = (⟨(word s).1, (eachs rel 3 (need (word s).2 123)).1⟩, need (eachs rel 3 (need (word s).2 123)).2 125) from rfl)
  clear h hA
  generalize typ s = res at *
  generalize (word s).1 = A at *
  generalize (word s).2 = s1 at *
  go_enter Tryz.func97, Tryz.ntmps97
  go_wp2_with fail
  generalize x.alloc (.cells #[.string ⟨#[]⟩, .slice none 0 0] 40) = w1 at *
  refine HW.out.mono ?_
  rintro e w2 ⟨rfl, h1, h2⟩
  have HA2 := Lib.hid (HA.out.turn h1 h2)
  have HN := Lib.hid (need_any h1 123 (by decide))
  clear h1 h2 HW HA
  go_wp2_with fail
  refine HN.out.mono ?_
  rintro e w3 ⟨rfl, h1, h2⟩
  have HA3 := Lib.hid (HA2.out.turn h1 h2)
  have HE := Lib.hid (eachR_any (rel_part c) rel_fine (k := 3) (by decide) h1)
  clear h1 h2 HN HA2
  generalize need s1 123 = s2 at *
  go_wp2_with fail
  refine HE.out.mono ?_
  rintro e w4 ⟨v, rfl, hv, h1, h2⟩
  have hrow := hv.mono (C := x.heap.size + 1) (by have := HA3.out.lt; omega)
  obtain ⟨ao, cap, rfl⟩ := hv.slice
  have HA4 := Lib.hid (And.intro (HA3.out.turn h1 h2) hrow)
  have HN2 := Lib.hid (need_any h1 125 (by decide))
  clear hv hrow h1 h2 HE HA3
  generalize eachs rel 3 s2 = r at *
  obtain ⟨l, s3⟩ := r
  simp only at *
  go_wp2_with fail
  refine HN2.out.mono ?_
  rintro e w5 ⟨rfl, h1, h2⟩
  have hA := HA4.out.1.turn h1 h2
  have hrow := HA4.out.2.turn h2 fun g hg _ e => by have := HA4.out.1.low; omega
  have hres := hA.res
  have d0 : w5.cell? ⟨x.heap.size, 0, none⟩ = some (.string ⟨#[]⟩) := by rw [Lib.cell_of_heap hres]; rfl
  have d1 : w5.cell? ⟨x.heap.size, 1, none⟩ = some (.slice none 0 0) := by rw [Lib.cell_of_heap hres]; rfl
  have f0 : w5.frozen? ⟨x.heap.size, 0, none⟩ = false := Lib.frozen_of_heap hres 0
  have f1 : w5.frozen? ⟨x.heap.size, 1, none⟩ = false := Lib.frozen_of_heap hres 1
  have hset : Turns (fun g => g = x.heap.size) w5 ((w5.setCell ⟨x.heap.size, 0, none⟩ (.string A)).setCell ⟨x.heap.size, 1, none⟩ (.slice ao l.length cap)) := (set_own w5 x.heap.size 0 _).setCell (p := ⟨x.heap.size, 1, none⟩) rfl _
  have hres2 := Lib.heap_setCell_same (i := 1) (Lib.heap_setCell_same (i := 0) hres (.string A)) (.slice ao l.length cap)
  have g0 : ((w5.setCell ⟨x.heap.size, 0, none⟩ (.string A)).setCell ⟨x.heap.size, 1, none⟩ (.slice ao l.length cap)).cell? ⟨x.heap.size, 0, none⟩ = some (.string A) := by rw [Lib.cell_of_heap hres2]; rfl
  have g1 : ((w5.setCell ⟨x.heap.size, 0, none⟩ (.string A)).setCell ⟨x.heap.size, 1, none⟩ (.slice ao l.length cap)).cell? ⟨x.heap.size, 1, none⟩ = some (.slice ao l.length cap) := by rw [Lib.cell_of_heap hres2]; rfl
  have HF := Lib.hid (And.intro (ty_is (A := A) hrow hset) (hA.fin hset))
  have HG := Lib.hid (And.intro g0 g1)
  clear hA hrow hres hres2 hset g0 g1 HA4 HN2 h1 h2
  generalize need s3 125 = s6 at *
  go_wp2_with fail
  obtain ⟨g0, g1⟩ := HG.out
  exact bodyPost_ret (v := tyV ⟨A, l⟩ (.slice ao l.length cap)) (by simp [results, Tryz.results97, go_sem, g0, g1]) rfl ⟨_, rfl, by rw [HQ.out]; exact HF.out⟩
theorem enter_typ : ∀ args W, (callFunc 97 args).run Tryz.prog W = .ok (.enter 97 args) W := fun args W => by kernel_rfl
theorem typ_part (c : Ctx) : Part tyE c 0 97 typ := ⟨enter_typ, fun _ _ h => typ_any h⟩

def CfS (w : World) (B : Nat) (l : List Ty) (v : Value) : Prop := ∃ ao cap, v = .agg #[.slice ao l.length cap] ∧ RowS tyE w B tTy (.slice ao l.length cap) l
set_option maxHeartbeats 4000000 in
set_option maxRecDepth 100000 in
theorem config_any {c : Ctx} {s : St} {x : World} (h : Rd c 0 s x) :
    Calls Tryz.prog 58 #[.pointer (some ⟨c.R, 0, none⟩)] x fun e y => ∃ v, e = .returned v ∧ CfS y x.heap.size (config s).1 v ∧ Rd c 0 (config s).2 y ∧ Turns (fun k => k = c.R) x y := by
  have hA := Hs.start h #[.slice none 0 0] tCf
  have HE := Lib.hid (eachT_any (typ_part c) typ_fine (k := 2) (by decide) hA.rd)
  have HA := Lib.hid hA
  clear h hA
  have HQ := Lib.hid (show config s = eachs typ 2 s from rfl)
  generalize config s = res at *
  go_enter Tryz.func58, Tryz.ntmps58
  go_wp2_with fail
  generalize x.alloc (.cells #[.slice none 0 0] 24) = w1 at *
  refine HE.out.mono ?_
  rintro e w4 ⟨v, rfl, hv, h1, h2⟩
  have hrow := hv.mono (C := x.heap.size + 1) (by have := HA.out.lt; omega)
  obtain ⟨ao, cap, rfl⟩ := hv.slice
  have hA := HA.out.turn h1 h2
  clear hv HE HA h1 h2
  generalize eachs typ 2 s = r at *
  obtain ⟨l, s3⟩ := r
  simp only at *
  have hres := hA.res
  have d0 : w4.cell? ⟨x.heap.size, 0, none⟩ = some (.slice none 0 0) := by rw [Lib.cell_of_heap hres]; rfl
  have f0 : w4.frozen? ⟨x.heap.size, 0, none⟩ = false := Lib.frozen_of_heap hres 0
  have hset := set_own w4 x.heap.size 0 (.slice ao l.length cap)
  have hres2 := Lib.heap_setCell_same (i := 0) hres (.slice ao l.length cap)
  have g0 : (w4.setCell ⟨x.heap.size, 0, none⟩ (.slice ao l.length cap)).cell? ⟨x.heap.size, 0, none⟩ = some (.slice ao l.length cap) := by rw [Lib.cell_of_heap hres2]; rfl
  have HF := Lib.hid (And.intro (show CfS _ x.heap.size l (.agg #[.slice ao l.length cap]) from ⟨ao, cap, rfl, (hrow.turn hset fun g hg _ e => by omega).mono (Nat.le_succ _)⟩) (hA.fin hset))
  have HG := Lib.hid g0
  clear hA hrow hres hres2 hset g0
  go_wp2_with fail
  have g0 := HG.out
  exact bodyPost_ret (v := .agg #[.slice ao l.length cap]) (by simp [results, Tryz.results58, go_sem, g0]) rfl ⟨_, rfl, by rw [HQ.out]; exact HF.out⟩
end Gr
end Go.Proofs.YtopncohhagebbaaGreatDoor
