/-
  Layer 7 (grammar): configurations that lie in memory; the law's SameConfig of two that hold the same.
-/
import Derived.Test.YtopncohhagebbaaGreatDoorRgN
import Derived.Test.YtopncohhagebbaaGreatDoorMgGr
namespace Go.Proofs.YtopncohhagebbaaGreatDoor
open Go.RowKit
namespace Gr
open Tr (Nd IsNode RowAt Box4 node4 size)
open Knot (Turns NewRow)

structure Lies {α : Type} (P : World → α → Value → Prop) (c : Nat) (w : World) (ao : Option Addr) (l : List α) (vs : List Value) : Prop where
  len : vs.length = l.length
  big : l.length ≤ maxLen
  row : l ≠ [] → ∃ g o, ao = some ⟨g, o, none⟩ ∧ RowAt w c g o vs
  is : ∀ (i : Nat) (a : α) (u : Value), l[i]? = some a → vs[i]? = some u → P w a u
section
variable {α : Type} {P : World → α → Value → Prop} {c : Nat} {w x : World} {ao : Option Addr} {l : List α} {vs : List Value}
theorem Lies.on (h : Lies P c w ao l vs) (hb : Below w.heap.size w x) (hP : ∀ a u, P w a u → P x a u) : Lies P c x ao l vs :=
  ⟨h.len, h.big, fun hl => by obtain ⟨g, o, e, hr⟩ := h.row hl; exact ⟨g, o, e, hr.below hb⟩, fun i a u hi hu => hP a u (h.is i a u hi hu)⟩
theorem Lies.of_own {B cap : Nat} {e : TypeId} (h : w.ownsRow B e c (.slice ao l.length cap) l.length (cellsV vs)) (hl : vs.length = l.length) (hc : ∀ v ∈ vs, v.cells.size = c)
    (hP : ∀ (i : Nat) (a : α) (u : Value), l[i]? = some a → vs[i]? = some u → P w a u) : Lies P c w ao l vs := by
  have hbig : l.length ≤ maxLen := by
    rcases h.2 with ⟨-, h0⟩ | ⟨g, cap', cur, hv, hb, -, h1, h2, -⟩
    · rw [h0]; exact Nat.zero_le _
    · exact Nat.le_trans h1 h2
  refine ⟨hl, hbig, fun hne => ?_, hP⟩
  have hpos := List.length_pos_iff.2 hne
  rcases h.2 with ⟨-, h0⟩ | ⟨g, cap', cur, hv, hb, -⟩
  · omega
  · obtain ⟨rfl, -⟩ : ao = some ⟨g, 0, none⟩ ∧ _ := by simpa using hv
    refine ⟨g, 0, rfl, fun i v hv => ⟨hc v (List.mem_of_getElem? hv), fun j u hu => ?_⟩⟩
    have hj : j < c := by
      have := (Array.getElem?_eq_some_iff.1 hu).1
      rwa [hc v (List.mem_of_getElem? hv)] at this
    have h4 := h.cells (g := g) rfl (i * c + j) u (by rw [cellsV_at hc hv j hj]; exact hu)
    rw [Tr.addp] at h4
    rwa [Nat.add_assoc]
theorem Lies.at {T : TypeId} (hu : Tryz.prog.underlying T = some (.slice (Tryz.prog.elem T))) (hz : ∀ w, (sizeOf (Tryz.prog.elem T)).run Tryz.prog w = .ok c w) (hc : 0 < c) (h : Lies P c w ao l vs) (cap : Nat) {i : Nat} (hi : i < l.length) :
    ∃ g q u, (∀ W, (Instr.indexAt T (.slice ao l.length cap) (.int .i64 (i : Int))).run Tryz.prog W = .ok (.pointer (some ⟨g, q, none⟩)) W) ∧ g < w.heap.size ∧ (∀ j z, u.cells[j]? = some z → w.cell? ⟨g, q + j, none⟩ = some z) ∧ P w l[i] u := by
  obtain ⟨g, o, rfl, hrow⟩ := h.row (fun e => by rw [e] at hi; simp at hi)
  have hlt : i < vs.length := by rw [h.len]; exact hi
  obtain ⟨hs, hcs⟩ := hrow i vs[i] (List.getElem?_eq_getElem hlt)
  have h0 : vs[i].cells[0]? = some (vs[i].cells[0]'(by omega)) := Array.getElem?_eq_getElem (by omega)
  refine ⟨g, o + i * c, vs[i], fun W => ?_, World.block_lt_of_cell? w _ (hcs 0 _ h0), fun j z hj => hcs j z hj, h.is i _ _ (List.getElem?_eq_getElem hi) (List.getElem?_eq_getElem hlt)⟩
  rw [run_indexAt_slice W _ _ _ _ _ _ hu, if_pos ⟨by omega, by omega⟩, hz]
  have e : ((i : Int)).toNat = i := by omega
  simp only [Result.andThen_ok, e, Addr.add_lit]
end

def IsAl (_ : World) (a : Al) (v : Value) : Prop := v = alV a
def IsRl (w : World) (r : Rl) (v : Value) : Prop :=
  ∃ ao cap no nc us, v = relV r (.slice ao r.allow.length cap) (.slice no r.expr.kids.length nc) ∧ Lies IsAl 3 w ao r.allow us ∧ IsNode w r.expr (node4 r.expr.kind r.expr.ta r.expr.tb (.slice no r.expr.kids.length nc))
def IsTy (w : World) (t : Ty) (v : Value) : Prop := ∃ ao cap us, v = tyV t (.slice ao t.rels.length cap) ∧ Lies IsRl 6 w ao t.rels us
def IsCf (w : World) (l : List Ty) (v : Value) : Prop := ∃ ao cap us, v = .agg #[.slice ao l.length cap] ∧ Lies IsTy 2 w ao l us
section
variable {w x : World}
theorem IsRl.below {r : Rl} {v : Value} (h : IsRl w r v) (hb : Below w.heap.size w x) : IsRl x r v := by
  obtain ⟨ao, cap, no, nc, us, e, h1, h2⟩ := h
  exact ⟨ao, cap, no, nc, us, e, h1.on hb fun _ _ h => h, h2.below hb⟩
theorem IsTy.below {t : Ty} {v : Value} (h : IsTy w t v) (hb : Below w.heap.size w x) : IsTy x t v := by
  obtain ⟨ao, cap, us, e, h1⟩ := h
  exact ⟨ao, cap, us, e, h1.on hb fun _ _ h => h.below hb⟩
theorem IsCf.below {l : List Ty} {v : Value} (h : IsCf w l v) (hb : Below w.heap.size w x) : IsCf x l v := by
  obtain ⟨ao, cap, us, e, h1⟩ := h
  exact ⟨ao, cap, us, e, h1.on hb fun _ _ h => h.below hb⟩
theorem RelS.is {S : Nat → Prop} {r : Rl} {v : Value} (h : RelS S w r v) : IsRl w r v := by
  obtain ⟨ao, cap, no, nc, B, e, ⟨us, h1, h2, h3⟩, -, hn⟩ := h
  refine ⟨ao, cap, no, nc, us, e, Lies.of_own h1 h2 (cellsV_len (E := allowE) h2 h3) fun i a u hi hu => h3 i a u hi hu, NodeS.is _ (Nat.le_refl _) hn⟩
theorem TyS.is {S : Nat → Prop} {t : Ty} {v : Value} (h : TyS S w t v) : IsTy w t v := by
  obtain ⟨ao, cap, vs, B, e, h1, h2, -, h4⟩ := h
  exact ⟨ao, cap, vs, e, Lies.of_own h1 h2 (cellsV_len (E := relE) h2 h4) fun i a u hi hu => (h4 i a u hi hu).is⟩
theorem row_is {B : Nat} {l : List Ty} {v : Value} (h : RowS tyE w B tTy v l) : ∃ ao cap us, v = .slice ao l.length cap ∧ Lies IsTy 2 w ao l us := by
  obtain ⟨ao, cap, rfl⟩ := h.slice
  obtain ⟨vs, h1, h2, h3⟩ := h
  exact ⟨ao, cap, vs, rfl, Lies.of_own h1 h2 (cellsV_len (E := tyE) h2 h3) fun i a u hi hu => TyS.is (h3 i a u hi hu)⟩
theorem CfS.is {B : Nat} {l : List Ty} {v : Value} (h : CfS w B l v) : IsCf w l v := by
  obtain ⟨ao, cap, e, hr⟩ := h
  obtain ⟨ao', cap', us, e', hl⟩ := row_is hr
  obtain ⟨rfl, rfl⟩ : ao = ao' ∧ cap = cap' := by simpa using e'
  exact ⟨_, _, us, e, hl⟩
end
theorem elemTy : Tryz.prog.underlying 22 = some (.slice (Tryz.prog.elem 22)) := by kernel_rfl
theorem sizeTy : ∀ w, (sizeOf (Tryz.prog.elem 22)).run Tryz.prog w = .ok 2 w := fun w => by kernel_rfl
theorem elemRl : Tryz.prog.underlying 38 = some (.slice (Tryz.prog.elem 38)) := by kernel_rfl
theorem sizeRl : ∀ w, (sizeOf (Tryz.prog.elem 38)).run Tryz.prog w = .ok 6 w := fun w => by kernel_rfl
theorem elemAl : Tryz.prog.underlying 44 = some (.slice (Tryz.prog.elem 44)) := by kernel_rfl
theorem sizeAl : ∀ w, (sizeOf (Tryz.prog.elem 44)).run Tryz.prog w = .ok 3 w := fun w => by kernel_rfl
section
variable {w : World} {ao : Option Addr} {us : List Value}
theorem ty_at {l : List Ty} (h : Lies IsTy 2 w ao l us) (cap : Nat) {i : Nat} (hi : i < l.length) :
    ∃ g q ro rc vs, (∀ W, (Instr.indexAt 22 (.slice ao l.length cap) (.int .i64 (i : Int))).run Tryz.prog W = .ok (.pointer (some ⟨g, q, none⟩)) W) ∧ g < w.heap.size ∧
      w.cell? ⟨g, q, none⟩ = some (.string l[i].name) ∧ w.cell? ⟨g, q + 1, none⟩ = some (.slice ro l[i].rels.length rc) ∧ Lies IsRl 6 w ro l[i].rels vs := by
  obtain ⟨g, q, u, h1, h2, h3, ro, rc, vs, rfl, h4⟩ := h.at elemTy sizeTy (by decide) cap hi
  exact ⟨g, q, ro, rc, vs, h1, h2, h3 0 _ rfl, h3 1 _ rfl, h4⟩
theorem rl_at {l : List Rl} (h : Lies IsRl 6 w ao l us) (cap : Nat) {i : Nat} (hi : i < l.length) :
    ∃ g q ro rc no nc vs, (∀ W, (Instr.indexAt 38 (.slice ao l.length cap) (.int .i64 (i : Int))).run Tryz.prog W = .ok (.pointer (some ⟨g, q, none⟩)) W) ∧ g < w.heap.size ∧
      w.cell? ⟨g, q, none⟩ = some (.string l[i].name) ∧ w.cell? ⟨g, q + 1, none⟩ = some (.slice ro l[i].allow.length rc) ∧ w.cell? ⟨g, q + 2, none⟩ = some (.int .i64 l[i].expr.kind) ∧ w.cell? ⟨g, q + 3, none⟩ = some (.string l[i].expr.ta) ∧
      w.cell? ⟨g, q + 4, none⟩ = some (.string l[i].expr.tb) ∧ w.cell? ⟨g, q + 5, none⟩ = some (.slice no l[i].expr.kids.length nc) ∧ Lies IsAl 3 w ro l[i].allow vs ∧
      IsNode w l[i].expr (node4 l[i].expr.kind l[i].expr.ta l[i].expr.tb (.slice no l[i].expr.kids.length nc)) := by
  obtain ⟨g, q, u, h1, h2, h3, ro, rc, no, nc, vs, rfl, h4, h5⟩ := h.at elemRl sizeRl (by decide) cap hi
  exact ⟨g, q, ro, rc, no, nc, vs, h1, h2, h3 0 _ rfl, h3 1 _ rfl, h3 2 _ rfl, h3 3 _ rfl, h3 4 _ rfl, h3 5 _ rfl, h4, h5⟩
theorem al_at {l : List Al} (h : Lies IsAl 3 w ao l us) (cap : Nat) {i : Nat} (hi : i < l.length) :
    ∃ g q, (∀ W, (Instr.indexAt 44 (.slice ao l.length cap) (.int .i64 (i : Int))).run Tryz.prog W = .ok (.pointer (some ⟨g, q, none⟩)) W) ∧ g < w.heap.size ∧
      w.cell? ⟨g, q, none⟩ = some (.string l[i].ty) ∧ w.cell? ⟨g, q + 1, none⟩ = some (.string l[i].rel) ∧ w.cell? ⟨g, q + 2, none⟩ = some (.bool l[i].wild) := by
  obtain ⟨g, q, u, h1, h2, h3, rfl⟩ := h.at elemAl sizeAl (by decide) cap hi
  exact ⟨g, q, h1, h2, h3 0 _ rfl, h3 1 _ rfl, h3 2 _ rfl⟩
end
end Gr
end Go.Proofs.YtopncohhagebbaaGreatDoor
