/-
  Layer 7 (grammar): a part of the grammar, as a function of the program; allowances, relations, types that lie in memory.
-/
import Derived.Test.YtbphmaoomnocmaaDoorGrRdA
import Derived.Deep.LoopGhost
namespace Go.Proofs.YtbphmaoomnocmaaDoor
open Go.RowKit
namespace Gr
open Knot (Turns NewRow)
open Tr (Nd none0 node4 own_slice IsElem)
open Sg (Tok kt)

/-- What a part answers. -/
def Out {α : Type} (E : Elt α) (c : Ctx) (o : Nat) (r : α × St) (x : World) (e : Ending) (y : World) : Prop :=
  ∃ v, e = .returned v ∧ E.is (fun g => x.heap.size ≤ g) y r.1 v ∧ Rd c o r.2 y ∧ Turns (fun k => k = c.R) x y
/-- A part. -/
structure Part {α : Type} (E : Elt α) (c : Ctx) (o : Nat) (f : FuncId) (p : St → α × St) : Prop where
  enter : ∀ args W, (callFunc f args).run Tryd.prog W = .ok (.enter f args) W
  run : ∀ s x, Rd c o s x → Calls Tryd.prog f #[.pointer (some ⟨c.R, 0, none⟩)] x (Out E c o (p s) x)
/-- What a list of parts answers. -/
def Outs {α : Type} (E : Elt α) (T : TypeId) (c : Ctx) (o : Nat) (r : List α × St) (x : World) (e : Ending) (y : World) : Prop :=
  ∃ v, e = .returned v ∧ RowS E y x.heap.size T v r.1 ∧ Rd c o r.2 y ∧ Turns (fun k => k = c.R) x y

/-! ### allowances -/
abbrev alV (a : Al) : Value := .agg #[.string a.ty, .string a.rel, .bool a.wild]
theorem al_cells (a : Al) : (alV a).cells = #[.string a.ty, .string a.rel, .bool a.wild] := rfl
def allowE : Elt Al where
  c := 3
  pos := by decide
  is := fun _ _ a v => v = alV a
  cells := fun h => by rw [h]; rfl
  one := fun h u hu => by
    rw [h, al_cells] at hu
    simp at hu
    rcases hu with rfl | rfl | rfl <;> rfl
  turn := fun h _ _ _ => h

/-! ### relations -/
abbrev relV (r : Rl) (av nv : Value) : Value := .agg #[.string r.name, av, .int .i64 r.expr.kind, .string r.expr.ta, .string r.expr.tb, nv]
theorem rel_cells (r : Rl) (av nv : Value) : (relV r av nv).cells = #[.string r.name, av, .int .i64 r.expr.kind, .string r.expr.ta, .string r.expr.tb, nv] := rfl
def RelS (S : Nat → Prop) (w : World) (r : Rl) (v : Value) : Prop :=
  ∃ ao cap no nc B, v = relV r (.slice ao r.allow.length cap) (.slice no r.expr.kids.length nc) ∧ RowS allowE w B 51 (.slice ao r.allow.length cap) r.allow ∧ (∀ k, (Value.slice ao r.allow.length cap).ownBlock = some k → S k) ∧
    NodeS S w r.expr (node4 r.expr.kind r.expr.ta r.expr.tb (.slice no r.expr.kids.length nc))
theorem allow_turn {F : Nat → Prop} {w x : World} {B : Nat} {T : TypeId} {v : Value} {l : List Al} (h : RowS allowE w B T v l) (ht : Turns F w x) (hF : ∀ k, v.ownBlock = some k → ¬ F k) : RowS allowE x B T v l := by
  obtain ⟨vs, h1, h2, h3⟩ := h
  exact ⟨vs, Tr.own_turn h1 ht hF, h2, h3⟩
def relE : Elt Rl where
  c := 6
  pos := by decide
  is := RelS
  cells := fun h => by
    obtain ⟨ao, cap, no, nc, B, rfl, -⟩ := h
    rfl
  one := fun h u hu => by
    obtain ⟨ao, cap, no, nc, B, rfl, -⟩ := h
    rw [rel_cells] at hu
    simp at hu
    rcases hu with rfl | rfl | rfl | rfl | rfl | rfl <;> rfl
  turn := fun h ht hF hS => by
    obtain ⟨ao, cap, no, nc, B, rfl, h1, h3, h2⟩ := h
    exact ⟨ao, cap, no, nc, B, rfl, allow_turn h1 ht fun k hk => hF k (h3 k hk) (h1.own_lt hk).2, fun k hk => hS k (h3 k hk) (h1.own_lt hk).2, h2.turn ht hF hS⟩

/-! ### types -/
abbrev tyV (t : Ty) (rv : Value) : Value := .agg #[.string t.name, rv]
theorem ty_cells (t : Ty) (rv : Value) : (tyV t rv).cells = #[.string t.name, rv] := rfl
def TyS (S : Nat → Prop) (w : World) (t : Ty) (v : Value) : Prop :=
  ∃ ao cap vs B, v = tyV t (.slice ao t.rels.length cap) ∧ w.ownsRow B 49 6 (.slice ao t.rels.length cap) t.rels.length (cellsV vs) ∧ vs.length = t.rels.length ∧ (∀ k, (Value.slice ao t.rels.length cap).ownBlock = some k → S k) ∧
    ∀ (i : Nat) (a : Rl) (u : Value), t.rels[i]? = some a → vs[i]? = some u → RelS S w a u
def tyE : Elt Ty where
  c := 2
  pos := by decide
  is := TyS
  cells := fun h => by
    obtain ⟨ao, cap, vs, B, rfl, -⟩ := h
    rfl
  one := fun h u hu => by
    obtain ⟨ao, cap, vs, B, rfl, -⟩ := h
    rw [ty_cells] at hu
    simp at hu
    rcases hu with rfl | rfl <;> rfl
  turn := fun h ht hF hS => by
    obtain ⟨ao, cap, vs, B, rfl, h1, h2, h3, h4⟩ := h
    exact ⟨ao, cap, vs, B, rfl, Tr.own_turn h1 ht fun k hk => hF k (h3 k hk) (h1.lt k hk).2, h2, fun k hk => hS k (h3 k hk) (h1.lt k hk).2, fun i a u hi hu => relE.turn (h4 i a u hi hu) ht hF hS⟩

/-! ### their rows -/
set_option maxRecDepth 100000 in
theorem elN : ∃ i z b, IsElem Tryd.prog 23 25 i z 4 b ∧ b ≤ 300 := by
  refine ⟨_, _, _, ⟨by kernel_rfl, rfl, rfl, by kernel_rfl, rfl, by kernel_rfl, by omega⟩, ?_⟩
  exact of_decide_eq_true (by kernel_rfl)
set_option maxRecDepth 100000 in
theorem elA : ∃ i z b, IsElem Tryd.prog 47 51 i z 3 b ∧ b ≤ 300 := by
  refine ⟨_, _, _, ⟨by kernel_rfl, rfl, rfl, by kernel_rfl, rfl, by kernel_rfl, by omega⟩, ?_⟩
  exact of_decide_eq_true (by kernel_rfl)
set_option maxRecDepth 100000 in
theorem elR : ∃ i z b, IsElem Tryd.prog 44 49 i z 6 b ∧ b ≤ 300 := by
  refine ⟨_, _, _, ⟨by kernel_rfl, rfl, rfl, by kernel_rfl, rfl, by kernel_rfl, by omega⟩, ?_⟩
  exact of_decide_eq_true (by kernel_rfl)
set_option maxRecDepth 100000 in
theorem elT : ∃ i z b, IsElem Tryd.prog 36 46 i z 2 b ∧ b ≤ 300 := by
  refine ⟨_, _, _, ⟨by kernel_rfl, rfl, rfl, by kernel_rfl, rfl, by kernel_rfl, by omega⟩, ?_⟩
  exact of_decide_eq_true (by kernel_rfl)
theorem new_cells (w : World) (T : TypeId) (cs : List Value) {b : Nat} (hb : b = w.heap.size) : ∀ j u, cs[j]? = some u → (w.alloc (.cells cs.toArray T)).cell? ((⟨b, 0, none⟩ : Addr).add j) = some u := by
  subst hb
  intro j u hj
  rw [Tr.addp, Nat.zero_add, Lib.cell_of_heap (heap_alloc_new w _)]
  simpa using hj
theorem eachs_len {α : Type} {one : St → α × St} {k : Int} (hf : Fine one) (hk : k ≠ 0) (s : St) : (eachs one k s).1.length + (eachs one k s).2.rest.length ≤ s.rest.length := each_len hf hk _ s
end Gr
end Go.Proofs.YtbphmaoomnocmaaDoor
