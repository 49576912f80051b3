/-
  Layer 7 (grammar): joined: a node of a row of nodes.
-/
import Derived.Test.YtbphmaoomnocmaaDoorGrList
namespace Go.Proofs.YtbphmaoomnocmaaDoor
open Go.RowKit
namespace Gr
open Knot (Turns NewRow)
open Tr (Nd none0 node4 own_slice RowAt own_open Box4)
open Sg (Tok kt)

theorem cellsV_at {c : Nat} : ∀ {vs : List Value}, (∀ v ∈ vs, v.cells.size = c) → ∀ {i : Nat} {v : Value}, vs[i]? = some v → ∀ j, j < c → (cellsV vs)[i * c + j]? = v.cells[j]?
  | [], _, i, v, h, _, _ => by simp at h
  | u :: vs, hc, 0, v, h, j, hj => by
    obtain rfl : u = v := by simpa using h
    have hs := hc u (by simp)
    rw [cellsV, List.flatMap_cons, Nat.zero_mul, Nat.zero_add, List.getElem?_append_left (by simp [hs]; exact hj)]
    simp
  | u :: vs, hc, i + 1, v, h, j, hj => by
    have hs := hc u (by simp)
    have ih := cellsV_at (vs := vs) (fun v hv => hc v (by simp [hv])) (i := i) (v := v) (by simpa using h) j hj
    have e : (i + 1) * c + j = u.cells.toList.length + (i * c + j) := by
      rw [Array.length_toList, hs, Nat.add_mul, Nat.one_mul]; omega
    rw [cellsV, List.flatMap_cons, e, List.getElem?_append_right (by omega), Nat.add_sub_cancel_left]
    exact ih
theorem NodeS.below {S : Nat → Prop} {w x : World} {n : Nd} {v : Value} (h : NodeS S w n v) (hb : Below w.heap.size w x) : NodeS S x n v := Elt.below (E := nodeE) h hb
/-- A row of nodes, as a node's kids. -/
theorem RowS.kids {w : World} {B : Nat} {l : List Nd} {ao : Option Addr} {cap : Nat} (h : RowS nodeE w B 25 (.slice ao l.length cap) l) :
    ∃ vs, (l ≠ [] → ∃ g, ao = some ⟨g, 0, none⟩ ∧ B ≤ g ∧ RowAt w 4 g 0 vs) ∧ NodesS (fun g => B ≤ g) w l vs := by
  obtain ⟨vs, h1, h2, h3⟩ := h
  have hsz : ∀ v ∈ vs, v.cells.size = 4 := cellsV_len (E := nodeE) (f := fun g => B ≤ g ∧ (Value.slice ao l.length cap).ownBlock ≠ some g) (w := w) h2 h3
  refine ⟨vs, fun hl => ?_, NodesS.of h2 fun i hi u hu => Elt.mono (E := nodeE) (h3 i l[i] u (List.getElem?_eq_getElem hi) hu) fun g hg _ => hg.1⟩
  have hpos := List.length_pos_iff.2 hl
  rcases h1.2 with ⟨-, h0⟩ | ⟨g, cap', cur, hv, hb, -⟩
  · omega
  · obtain ⟨rfl, -⟩ : ao = some ⟨g, 0, none⟩ ∧ _ := by simpa using hv
    refine ⟨g, rfl, hb, fun i v hv => ⟨hsz v (List.mem_of_getElem? hv), fun j u hu => ?_⟩⟩
    have hj : j < 4 := by
      have := (Array.getElem?_eq_some_iff.1 hu).1
      rwa [hsz v (List.mem_of_getElem? hv)] at this
    have h4 := h1.cells (g := g) rfl (i * 4 + j) u (by rw [cellsV_at hsz hv j hj]; exact hu)
    rw [Tr.addp] at h4
    rwa [Nat.add_assoc]
theorem RowS.node {w : World} {B : Nat} {l : List Nd} {ao : Option Addr} {cap : Nat} (h : RowS nodeE w B 25 (.slice ao l.length cap) l) (k : Int) :
    NodeS (fun g => B ≤ g) w (.mk k none0 none0 l) (node4 k none0 none0 (.slice ao l.length cap)) := by
  obtain ⟨vs, h1, h2⟩ := h.kids
  rw [NodeS]
  refine ⟨ao, cap, vs, rfl, ⟨by decide, by decide⟩, fun hl => ?_, h2⟩
  obtain ⟨g, e, hb, hr⟩ := h1 hl
  exact ⟨g, 0, e, hb, hr⟩
theorem elemNd : Tryd.prog.underlying 23 = some (.slice (Tryd.prog.elem 23)) := by kernel_rfl
theorem sizeNd : ∀ w, (sizeOf (Tryd.prog.elem 23)).run Tryd.prog w = .ok 4 w := fun w => by kernel_rfl
/-- The first node of a row. -/
theorem RowS.first {w : World} {B : Nat} {n : Nd} {r : List Nd} {ao : Option Addr} {cap : Nat} (h : RowS nodeE w B 25 (.slice ao (n :: r).length cap) (n :: r)) :
    ∃ g no nc, (∀ W, (Instr.indexAt 23 (.slice ao (n :: r).length cap) (.int .i64 0)).run Tryd.prog W = .ok (.pointer (some ⟨g, 0, none⟩)) W) ∧ g < w.heap.size ∧
      w.cell? ⟨g, 0, none⟩ = some (.int .i64 n.kind) ∧ w.cell? ⟨g, 1, none⟩ = some (.string n.ta) ∧ w.cell? ⟨g, 2, none⟩ = some (.string n.tb) ∧ w.cell? ⟨g, 3, none⟩ = some (.slice no n.kids.length nc) ∧
      NodeS (fun g => B ≤ g) w n (node4 n.kind n.ta n.tb (.slice no n.kids.length nc)) := by
  obtain ⟨vs, h1, h2⟩ := h.kids
  obtain ⟨g, rfl, hb, hr⟩ := h1 (by simp)
  obtain ⟨v, hv, hn⟩ := h2.at (i := 0) (by simp)
  obtain ⟨no, nc, us, rfl, -⟩ := hn.open
  obtain ⟨-, hc⟩ := hr 0 _ hv
  have c0 := hc 0 _ rfl
  refine ⟨g, no, nc, fun W => ?_, World.block_lt_of_cell? w _ c0, c0, hc 1 _ rfl, hc 2 _ rfl, hc 3 _ rfl, hn⟩
  rw [run_indexAt_slice W _ _ _ _ _ _ elemNd, if_pos ⟨by omega, by simp⟩, sizeNd]
  simp only [Result.andThen_ok, Addr.add_lit]
  simp
set_option maxHeartbeats 1000000 in
set_option maxRecDepth 100000 in
theorem joined_any {w : World} {B : Nat} {l : List Nd} {v : Value} (h : RowS nodeE w B 25 v l) (hl : l ≠ []) (k : Int) (hlen : l.length ≤ 100000) :
    Calls Tryd.prog 40 #[.int .i64 k, v] w fun e y => ∃ u, e = .returned u ∧ NodeS (fun g => B ≤ g) y (joined k l) u ∧ Below w.heap.size w y := by
  obtain ⟨ao, cap, rfl⟩ := h.slice
  match l, hl with
  | [n], _ =>
    obtain ⟨g, no, nc, hix, hg, c0, c1, c2, c3, hn⟩ := h.first
    have HN := Lib.hid hn
    have hix' : ∀ W, (Instr.indexAt 23 (.slice ao 1 cap) (.int .i64 0)).run Tryd.prog W = .ok (.pointer (some ⟨g, 0, none⟩)) W := hix
    clear hn h hlen hix
    show Calls _ _ #[.int .i64 k, .slice ao 1 cap] _ _
    go_enter Tryd.func40, Tryd.ntmps40
    go_wp2_with fail
    obtain ⟨b0, b1, b2, b3⟩ := (Box4.new w n.kind n.ta n.tb (.slice no n.kids.length nc)).cells
    have al : Below w.heap.size w (w.alloc (.cells #[.int .i64 n.kind, .string n.ta, .string n.tb, .slice no n.kids.length nc] 25)) := (Below.refl _ _).alloc (Nat.le_refl _) _
    exact bodyPost_ret (v := node4 n.kind n.ta n.tb (.slice no n.kids.length nc)) (by simp [results, Tryd.results40, go_sem, b0, b1, b2, b3]) rfl ⟨_, rfl, HN.out.below al, al⟩
  | n :: m :: r, _ =>
    have hn := h.node k
    have e1 : (((n :: m :: r).length : Int) == 1) = false := by simp; omega
    have HN := Lib.hid hn
    rw [show joined k (n :: m :: r) = .mk k none0 none0 (n :: m :: r) from rfl]
    clear hn h
    generalize hq : (n :: m :: r).length = q at *
    go_enter Tryd.func40, Tryd.ntmps40
    go_wp2_with fail
    obtain ⟨b0, b1, b2, b3⟩ := (Box4.new w k ⟨#[]⟩ ⟨#[]⟩ (.slice ao q cap)).cells
    have al : Below w.heap.size w (w.alloc (.cells #[.int .i64 k, .string ⟨#[]⟩, .string ⟨#[]⟩, .slice ao q cap] 25)) := (Below.refl _ _).alloc (Nat.le_refl _) _
    exact bodyPost_ret (v := node4 k ⟨#[]⟩ ⟨#[]⟩ (.slice ao q cap)) (by simp [results, Tryd.results40, go_sem, b0, b1, b2, b3]) rfl ⟨_, rfl, (show NodeS _ _ _ (node4 k none0 none0 (.slice ao q cap)) from HN.out.below al), al⟩
end Gr
end Go.Proofs.YtbphmaoomnocmaaDoor
