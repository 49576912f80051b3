/-
  Layer 7 (grammar): joined: a node of a row of nodes.
  Layer 7 (grammar): union and meet, out of what stands below them; atom and less, out of brackets.
  Layer 7 (grammar): less, out of atom.
  Layer 7 (grammar): atom and brackets; all of union, by how many brackets may still be opened.
  Layer 7 (grammar): allow.
  Layer 7 (grammar): rel, typ, config. Written by gen/mk_gre.py.
-/
import Derived.Test.YtopncohhagebbaaDoorMgRd
import Derived.Deep.DeepCutAuto
import Derived.Test.YtopncohhagebbaaDoorMgMem
namespace Go.Proofs.YtopncohhagebbaaDoor
open Go.RowKit
namespace Gr
open Knot (Turns NewRow)
open Tr (Nd none0 node4 own_slice RowAt own_open Box4)
open Sg (Tok kt)

theorem cellsV_at {c : Nat} : ∀ {vs : List Value}, (∀ v ∈ vs, v.cells.size = c) → ∀ {i : Nat} {v : Value}, vs[i]? = some v → ∀ j, j < c → (cellsV vs)[i * c + j]? = v.cells[j]?
  | [], _, i, v, h, _, _ => by simp at h
  | u :: vs, hc, 0, v, h, j, hj => by
    obtain rfl : u = v := by simpa using h
    have hs := hc u (by simp)
    rw [cellsV, List.flatMap_cons, Nat.zero_mul, Nat.zero_add, List.getElem?_append_left (by simp [hs]; exact hj)]
    simp
  | u :: vs, hc, i + 1, v, h, j, hj => by
    have hs := hc u (by simp)
    have ih := cellsV_at (vs := vs) (fun v hv => hc v (by simp [hv])) (i := i) (v := v) (by simpa using h) j hj
    have e : (i + 1) * c + j = u.cells.toList.length + (i * c + j) := by
      rw [Array.length_toList, hs, Nat.add_mul, Nat.one_mul]; omega
    rw [cellsV, List.flatMap_cons, e, List.getElem?_append_right (by omega), Nat.add_sub_cancel_left]
    exact ih
theorem NodeS.below {S : Nat → Prop} {w x : World} {n : Nd} {v : Value} (h : NodeS S w n v) (hb : Below w.heap.size w x) : NodeS S x n v := Elt.below (E := nodeE) h hb
/-- A row of nodes, as a node's kids. -/
theorem RowS.kids {w : World} {B : Nat} {l : List Nd} {ao : Option Addr} {cap : Nat} (h : RowS nodeE w B 52 (.slice ao l.length cap) l) :
    ∃ vs, (l ≠ [] → ∃ g, ao = some ⟨g, 0, none⟩ ∧ B ≤ g ∧ RowAt w 4 g 0 vs) ∧ NodesS (fun g => B ≤ g) w l vs := by
  obtain ⟨vs, h1, h2, h3⟩ := h
  have hsz : ∀ v ∈ vs, v.cells.size = 4 := cellsV_len (E := nodeE) (f := fun g => B ≤ g ∧ (Value.slice ao l.length cap).ownBlock ≠ some g) (w := w) h2 h3
  refine ⟨vs, fun hl => ?_, NodesS.of h2 fun i hi u hu => Elt.mono (E := nodeE) (h3 i l[i] u (List.getElem?_eq_getElem hi) hu) fun g hg _ => hg.1⟩
  have hpos := List.length_pos_iff.2 hl
  rcases h1.2 with ⟨-, h0⟩ | ⟨g, cap', cur, hv, hb, -⟩
  · omega
  · obtain ⟨rfl, -⟩ : ao = some ⟨g, 0, none⟩ ∧ _ := by simpa using hv
    refine ⟨g, rfl, hb, fun i v hv => ⟨hsz v (List.mem_of_getElem? hv), fun j u hu => ?_⟩⟩
    have hj : j < 4 := by
      have := (Array.getElem?_eq_some_iff.1 hu).1
      rwa [hsz v (List.mem_of_getElem? hv)] at this
    have h4 := h1.cells (g := g) rfl (i * 4 + j) u (by rw [cellsV_at hsz hv j hj]; exact hu)
    rw [Tr.addp] at h4
    rwa [Nat.add_assoc]
theorem RowS.node {w : World} {B : Nat} {l : List Nd} {ao : Option Addr} {cap : Nat} (h : RowS nodeE w B 52 (.slice ao l.length cap) l) (k : Int) :
    NodeS (fun g => B ≤ g) w (.mk k none0 none0 l) (node4 k none0 none0 (.slice ao l.length cap)) := by
  obtain ⟨vs, h1, h2⟩ := h.kids
  rw [NodeS]
  refine ⟨ao, cap, vs, rfl, ⟨by decide, by decide⟩, fun hl => ?_, h2⟩
  obtain ⟨g, e, hb, hr⟩ := h1 hl
  exact ⟨g, 0, e, hb, hr⟩
theorem elemNd : Tryd.prog.underlying 50 = some (.slice (Tryd.prog.elem 50)) := by kernel_rfl
theorem sizeNd : ∀ w, (sizeOf (Tryd.prog.elem 50)).run Tryd.prog w = .ok 4 w := fun w => by kernel_rfl
/-- The first node of a row. -/
theorem RowS.first {w : World} {B : Nat} {n : Nd} {r : List Nd} {ao : Option Addr} {cap : Nat} (h : RowS nodeE w B 52 (.slice ao (n :: r).length cap) (n :: r)) :
    ∃ g no nc, (∀ W, (Instr.indexAt 50 (.slice ao (n :: r).length cap) (.int .i64 0)).run Tryd.prog W = .ok (.pointer (some ⟨g, 0, none⟩)) W) ∧ g < w.heap.size ∧
      w.cell? ⟨g, 0, none⟩ = some (.int .i64 n.kind) ∧ w.cell? ⟨g, 1, none⟩ = some (.string n.ta) ∧ w.cell? ⟨g, 2, none⟩ = some (.string n.tb) ∧ w.cell? ⟨g, 3, none⟩ = some (.slice no n.kids.length nc) ∧
      NodeS (fun g => B ≤ g) w n (node4 n.kind n.ta n.tb (.slice no n.kids.length nc)) := by
  obtain ⟨vs, h1, h2⟩ := h.kids
  obtain ⟨g, rfl, hb, hr⟩ := h1 (by simp)
  obtain ⟨v, hv, hn⟩ := h2.at (i := 0) (by simp)
  obtain ⟨no, nc, us, rfl, -⟩ := hn.open
  obtain ⟨-, hc⟩ := hr 0 _ hv
  have c0 := hc 0 _ rfl
  refine ⟨g, no, nc, fun W => ?_, World.block_lt_of_cell? w _ c0, c0, hc 1 _ rfl, hc 2 _ rfl, hc 3 _ rfl, hn⟩
  rw [run_indexAt_slice W _ _ _ _ _ _ elemNd, if_pos ⟨by omega, by simp⟩, sizeNd]
  simp only [Result.andThen_ok, Addr.add_lit]
  simp
end Gr
end Go.Proofs.YtopncohhagebbaaDoor

namespace Go.Proofs.YtopncohhagebbaaDoor
open Go.RowKit
namespace Gr
open Knot (Turns NewRow)
open Tr (Nd none0 node4 own_slice RowAt own_open Box4)
open Sg (Tok kt)

/-- A node that a call hands back out of its box. -/
theorem ret_node {W : World} {R : Nat} {k : Int} {a b : ByteArray} {s : Value} (h : Box4 R k a b s W) : W.cell? ⟨R, 0, none⟩ = some (.int .i64 k) ∧ W.cell? ⟨R, 1, none⟩ = some (.string a) ∧ W.cell? ⟨R, 2, none⟩ = some (.string b) ∧ W.cell? ⟨R, 3, none⟩ = some s := h.cells
theorem lists_len {p : P} (hf : Fine p) {k : Int} (hk : k ≠ 0) (s : St) : (list p k s).1 ≠ [] ∧ (list p k s).1.length ≤ s.rest.length + 1 := by
  refine ⟨by simp [list], ?_⟩
  have h1 := eachs_len hf hk (p s).2
  have h2 := (hf.suf s).length_le
  simp only [list, List.length_cons]
  omega
/-- Four stores into a node's box. -/
def setN (x : World) (R : Nat) (k : Int) (a b : ByteArray) (s : Value) : World := (((x.setCell ⟨R, 0, none⟩ (.int .i64 k)).setCell ⟨R, 1, none⟩ (.string a)).setCell ⟨R, 2, none⟩ (.string b)).setCell ⟨R, 3, none⟩ s
theorem Box4.set {R : Nat} {k k' : Int} {a b a' b' : ByteArray} {s s' : Value} {x : World} (h : Box4 R k a b s x) : Box4 R k' a' b' s' (setN x R k' a' b' s') := by
  have h1 := Lib.heap_setCell_same (i := 0) h (.int .i64 k')
  have h2 := Lib.heap_setCell_same (i := 1) h1 (.string a')
  have h3 := Lib.heap_setCell_same (i := 2) h2 (.string b')
  exact Lib.heap_setCell_same (i := 3) h3 s'
theorem setN_turns {F : Nat → Prop} {w x : World} (h : Turns F w x) {R : Nat} (hR : w.heap.size ≤ R) (k : Int) (a b : ByteArray) (s : Value) : Turns F w (setN x R k a b s) :=
  (((h.setNew (p := ⟨R, 0, none⟩) hR _).setNew (p := ⟨R, 1, none⟩) hR _).setNew (p := ⟨R, 2, none⟩) hR _).setNew (p := ⟨R, 3, none⟩) hR _
theorem setN_own (x : World) (R : Nat) (k : Int) (a b : ByteArray) (s : Value) : Turns (fun g => g = R) x (setN x R k a b s) :=
  (((Turns.refl (fun g => g = R) x).setCell (p := ⟨R, 0, none⟩) rfl _).setCell (p := ⟨R, 1, none⟩) rfl _).setCell (p := ⟨R, 2, none⟩) rfl _ |>.setCell (p := ⟨R, 3, none⟩) rfl _
end Gr
end Go.Proofs.YtopncohhagebbaaDoor

namespace Go.Proofs.YtopncohhagebbaaDoor
open Go.RowKit
namespace Gr
open Knot (Turns NewRow)
open Tr (Nd none0 node4 own_slice RowAt own_open Box4)
open Sg (Tok kt)

/-- A list of two nodes. -/
theorem row_two {x : World} {g : Nat} {T : TypeId} {a0 a1 a2 a3 b0 b1 b2 b3 : Value} (h : x.heap[g]? = some (.cells #[a0, a1, a2, a3, b0, b1, b2, b3] T (0, 0))) : RowAt x 4 g 0 [.agg #[a0, a1, a2, a3], .agg #[b0, b1, b2, b3]] := by
  intro i v hv
  match i, hv with
  | 0, hv =>
    obtain rfl : Value.agg #[a0, a1, a2, a3] = v := by simpa using hv
    refine ⟨rfl, fun j u hj => ?_⟩
    match j, hj with
    | 0, hj => rw [Lib.cell_of_heap h]; exact hj
    | 1, hj => rw [Lib.cell_of_heap h]; exact hj
    | 2, hj => rw [Lib.cell_of_heap h]; exact hj
    | 3, hj => rw [Lib.cell_of_heap h]; exact hj
    | j + 4, hj => simp [Value.cells] at hj
  | 1, hv =>
    obtain rfl : Value.agg #[b0, b1, b2, b3] = v := by simpa using hv
    refine ⟨rfl, fun j u hj => ?_⟩
    match j, hj with
    | 0, hj => rw [Lib.cell_of_heap h]; exact hj
    | 1, hj => rw [Lib.cell_of_heap h]; exact hj
    | 2, hj => rw [Lib.cell_of_heap h]; exact hj
    | 3, hj => rw [Lib.cell_of_heap h]; exact hj
    | j + 4, hj => simp [Value.cells] at hj
  | i + 2, hv => simp at hv
/-- A node out of a row of two. -/
theorem two_node {x : World} {g cap : Nat} {S : Nat → Prop} {T : TypeId} {k : Int} {n m : Nd} {a0 a1 a2 a3 b0 b1 b2 b3 : Value} (h : x.heap[g]? = some (.cells #[a0, a1, a2, a3, b0, b1, b2, b3] T (0, 0)))
    (hn : NodeS S x n (.agg #[a0, a1, a2, a3])) (hm : NodeS S x m (.agg #[b0, b1, b2, b3])) (hS : S g) : NodeS S x (.mk k none0 none0 [n, m]) (node4 k none0 none0 (.slice (some ⟨g, 0, none⟩) 2 cap)) := by
  rw [NodeS]
  refine ⟨_, _, [.agg #[a0, a1, a2, a3], .agg #[b0, b1, b2, b3]], rfl, ⟨by decide, by decide⟩, fun _ => ⟨g, 0, rfl, hS, row_two h⟩, ?_⟩
  rw [NodesS]
  refine ⟨_, _, rfl, hn, ?_⟩
  rw [NodesS]
  refine ⟨_, _, rfl, hm, ?_⟩
  rw [NodesS]
end Gr
end Go.Proofs.YtopncohhagebbaaDoor

namespace Go.Proofs.YtopncohhagebbaaDoor
open Go.RowKit
namespace Gr
open Knot (Turns NewRow)
open Tr (Nd none0 node4 own_slice RowAt own_open Box4)
open Sg (Tok kt)

theorem leaf {S : Nat → Prop} {x : World} {k : Int} {a b : ByteArray} (ha : a.size ≤ maxLen) (hb : b.size ≤ maxLen) : NodeS S x (.mk k a b []) (node4 k a b (.slice none 0 0)) := by
  rw [NodeS]
  refine ⟨none, 0, [], rfl, ⟨ha, hb⟩, fun h => absurd rfl h, ?_⟩
  rw [NodesS]
theorem word_short {s : St} (h : Short s.rest) : (word s).1.size ≤ maxLen := by
  rw [word]
  split
  · rename_i hn
    obtain ⟨-, t, r, hr, -⟩ := next_good (s := s) (by rw [hn]; decide)
    rw [hr]
    have := h t (by rw [hr]; simp)
    show (Sg.txt t.2).size ≤ maxLen
    unfold maxLen
    simp [Sg.txt, ByteArray.size]
    omega
  · show none0.size ≤ maxLen
    decide
/-- A node of a box, above the result's. -/
structure Bx (x : World) (n : Nd) (R3 : Nat) (ns : Value) (w : World) : Prop where
  box : Box4 R3 n.kind n.ta n.tb ns w
  node : NodeS (fun g => x.heap.size + 1 ≤ g) w n (node4 n.kind n.ta n.tb ns)
  low : x.heap.size < R3
theorem Bx.turn {c : Ctx} {x : World} {n : Nd} {R3 : Nat} {ns : Value} {w y : World} (h : Bx x n R3 ns w) (hR : c.R < x.heap.size) (ht : Turns (fun k => k = c.R) w y) : Bx x n R3 ns y :=
  ⟨(ht.block _ h.box.lt (by have := h.low; omega)).trans h.box, h.node.turn ht (fun g hg _ e => by omega) fun g hg _ => hg, h.low⟩
end Gr
end Go.Proofs.YtopncohhagebbaaDoor

namespace Go.Proofs.YtopncohhagebbaaDoor
open Go.RowKit
namespace Gr
open Knot (Turns NewRow)
open Tr (Nd none0 node4 own_slice RowAt own_open Box4)
open Sg (Tok kt)

/-- A box of three. -/
def Box3 (T : TypeId) (R : Nat) (a b d : Value) (x : World) : Prop := x.heap[R]? = some (.cells #[a, b, d] T (0, 0))
section
variable {T : TypeId} {R : Nat} {a b d : Value} {x y : World}
theorem Box3.lt (h : Box3 T R a b d x) : R < x.heap.size := (Array.getElem?_eq_some_iff.1 h).1
theorem Box3.cells (h : Box3 T R a b d x) : x.cell? ⟨R, 0, none⟩ = some a ∧ x.cell? ⟨R, 1, none⟩ = some b ∧ x.cell? ⟨R, 2, none⟩ = some d :=
  ⟨by rw [Lib.cell_of_heap h]; rfl, by rw [Lib.cell_of_heap h]; rfl, by rw [Lib.cell_of_heap h]; rfl⟩
theorem Box3.free (h : Box3 T R a b d x) : x.frozen? ⟨R, 0, none⟩ = false ∧ x.frozen? ⟨R, 1, none⟩ = false ∧ x.frozen? ⟨R, 2, none⟩ = false := ⟨Lib.frozen_of_heap h 0, Lib.frozen_of_heap h 1, Lib.frozen_of_heap h 2⟩
theorem Box3.new (w : World) (T : TypeId) (a b d : Value) : Box3 T w.heap.size a b d (w.alloc (.cells #[a, b, d] T)) := heap_alloc_new w _
theorem Box3.turn {F : Nat → Prop} (h : Box3 T R a b d x) (ht : Turns F x y) (hF : ¬ F R) : Box3 T R a b d y := (ht.block R h.lt hF).trans h
def set3 (x : World) (R : Nat) (a b d : Value) : World := ((x.setCell ⟨R, 0, none⟩ a).setCell ⟨R, 1, none⟩ b).setCell ⟨R, 2, none⟩ d
theorem Box3.set (h : Box3 T R a b d x) (a' b' d' : Value) : Box3 T R a' b' d' (set3 x R a' b' d') :=
  Lib.heap_setCell_same (i := 2) (Lib.heap_setCell_same (i := 1) (Lib.heap_setCell_same (i := 0) h a') b') d'
theorem Box3.set1 (h : Box3 T R a b d x) (b' : Value) : Box3 T R a b' d (x.setCell ⟨R, 1, none⟩ b') := Lib.heap_setCell_same (i := 1) h b'
theorem Box3.set2 (h : Box3 T R a b d x) (d' : Value) : Box3 T R a b d' (x.setCell ⟨R, 2, none⟩ d') := Lib.heap_setCell_same (i := 2) h d'
theorem set3_own (x : World) (R : Nat) (a b d : Value) : Turns (fun g => g = R) x (set3 x R a b d) :=
  ((Turns.refl (fun g => g = R) x).setCell (p := ⟨R, 0, none⟩) rfl _).setCell (p := ⟨R, 1, none⟩) rfl _ |>.setCell (p := ⟨R, 2, none⟩) rfl _
theorem set_own (x : World) (R i : Nat) (v : Value) : Turns (fun g => g = R) x (x.setCell ⟨R, i, none⟩ v) := Turns.setCell (F := fun g => g = R) (Turns.refl _ x) rfl v
end
abbrev tAl : TypeId := 59
section
variable {c : Ctx} {o : Nat} {x : World} {s s' : St} {R3 : Nat} {a b d : Value} {w y : World}
end
end Gr
end Go.Proofs.YtopncohhagebbaaDoor

namespace Go.Proofs.YtopncohhagebbaaDoor
open Go.RowKit
namespace Gr
open Knot (Turns NewRow)
open Tr (Nd none0 node4 own_slice RowAt own_open Box4)
open Sg (Tok kt)

abbrev tRl : TypeId := 54
abbrev tTy : TypeId := 38
abbrev tCf : TypeId := 26
def Box6 (R : Nat) (a b d e f g : Value) (x : World) : Prop := x.heap[R]? = some (.cells #[a, b, d, e, f, g] tRl (0, 0))
section
variable {R : Nat} {a b d e f g : Value} {x y : World}
theorem Box6.cells (h : Box6 R a b d e f g x) : x.cell? ⟨R, 0, none⟩ = some a ∧ x.cell? ⟨R, 1, none⟩ = some b ∧ x.cell? ⟨R, 2, none⟩ = some d ∧ x.cell? ⟨R, 3, none⟩ = some e ∧ x.cell? ⟨R, 4, none⟩ = some f ∧ x.cell? ⟨R, 5, none⟩ = some g :=
  ⟨by rw [Lib.cell_of_heap h]; rfl, by rw [Lib.cell_of_heap h]; rfl, by rw [Lib.cell_of_heap h]; rfl, by rw [Lib.cell_of_heap h]; rfl, by rw [Lib.cell_of_heap h]; rfl, by rw [Lib.cell_of_heap h]; rfl⟩
theorem Box6.free (h : Box6 R a b d e f g x) : x.frozen? ⟨R, 0, none⟩ = false ∧ x.frozen? ⟨R, 1, none⟩ = false ∧ x.frozen? ⟨R, 2, none⟩ = false ∧ x.frozen? ⟨R, 3, none⟩ = false ∧ x.frozen? ⟨R, 4, none⟩ = false ∧ x.frozen? ⟨R, 5, none⟩ = false :=
  ⟨Lib.frozen_of_heap h 0, Lib.frozen_of_heap h 1, Lib.frozen_of_heap h 2, Lib.frozen_of_heap h 3, Lib.frozen_of_heap h 4, Lib.frozen_of_heap h 5⟩
def set6 (x : World) (R : Nat) (a b d e f g : Value) : World := (((((x.setCell ⟨R, 0, none⟩ a).setCell ⟨R, 1, none⟩ b).setCell ⟨R, 2, none⟩ d).setCell ⟨R, 3, none⟩ e).setCell ⟨R, 4, none⟩ f).setCell ⟨R, 5, none⟩ g
theorem Box6.set (h : Box6 R a b d e f g x) (a' b' d' e' f' g' : Value) : Box6 R a' b' d' e' f' g' (set6 x R a' b' d' e' f' g') :=
  Lib.heap_setCell_same (i := 5) (Lib.heap_setCell_same (i := 4) (Lib.heap_setCell_same (i := 3) (Lib.heap_setCell_same (i := 2) (Lib.heap_setCell_same (i := 1) (Lib.heap_setCell_same (i := 0) h a') b') d') e') f') g'
theorem set6_own (x : World) (R : Nat) (a b d e f g : Value) : Turns (fun k => k = R) x (set6 x R a b d e f g) :=
  (set_own x R 0 a).setCell (p := ⟨R, 1, none⟩) rfl _ |>.setCell (p := ⟨R, 2, none⟩) rfl _ |>.setCell (p := ⟨R, 3, none⟩) rfl _ |>.setCell (p := ⟨R, 4, none⟩) rfl _ |>.setCell (p := ⟨R, 5, none⟩) rfl _
end
section
variable {c : Ctx} {o : Nat} {x : World} {s s' : St} {cs : Array Value} {T : TypeId} {w y : World}
end
theorem row_al {w y : World} {B : Nat} {v : Value} {l : List Al} {F : Nat → Prop} (h : RowS allowE w B tAl v l) (ht : Turns F w y) (hF : ∀ g, F g → g < B) : RowS allowE y B tAl v l :=
  h.turn ht fun g hg _ e => by have := hF g e; omega
abbrev zR : Array Value := #[.string ⟨#[]⟩, .slice none 0 0, .int .i64 0, .string ⟨#[]⟩, .string ⟨#[]⟩, .slice none 0 0]
/-- What a relation is out of. -/
theorem rel_is {w : World} {B : Nat} {A : ByteArray} {l : List Al} {n : Nd} {ao no : Option Addr} {cap nc : Nat} (h1 : RowS allowE w (B + 1) tAl (.slice ao l.length cap) l) (h2 : NodeS (fun g => B + 1 ≤ g) w n (node4 n.kind n.ta n.tb (.slice no n.kids.length nc)))
    {y : World} (ht : Turns (fun g => g = B) w y) : RelS (fun g => B ≤ g) y ⟨A, l, n⟩ (relV ⟨A, l, n⟩ (.slice ao l.length cap) (.slice no n.kids.length nc)) :=
  ⟨ao, cap, no, nc, B + 1, rfl, row_al h1 ht fun g hg => by omega, fun k hk => by have := (h1.own_lt hk).1; omega, h2.turn ht (fun g hg _ e => by omega) fun g hg _ => by omega⟩
theorem ty_is {w : World} {B : Nat} {A : ByteArray} {l : List Rl} {ao : Option Addr} {cap : Nat} (h1 : RowS relE w (B + 1) tRl (.slice ao l.length cap) l)
    {y : World} (ht : Turns (fun g => g = B) w y) : TyS (fun g => B ≤ g) y ⟨A, l⟩ (tyV ⟨A, l⟩ (.slice ao l.length cap)) := by
  have h2 : RowS relE y (B + 1) tRl (.slice ao l.length cap) l := h1.turn ht fun g hg _ e => by omega
  obtain ⟨vs, o1, o2, o3⟩ := h2
  exact ⟨ao, cap, vs, B + 1, rfl, o1, o2, fun k hk => by have := (o1.lt k hk).1; omega, fun i a u hi hu => Elt.mono (E := relE) (o3 i a u hi hu) fun g hg _ => by have := hg.1; omega⟩
/-- A configuration that lies in memory. -/
def CfS (w : World) (B : Nat) (l : List Ty) (v : Value) : Prop := ∃ ao cap, v = .agg #[.slice ao l.length cap] ∧ RowS tyE w B tTy (.slice ao l.length cap) l
end Gr
end Go.Proofs.YtopncohhagebbaaDoor
