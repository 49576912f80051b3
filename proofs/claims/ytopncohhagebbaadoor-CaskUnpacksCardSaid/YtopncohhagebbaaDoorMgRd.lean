/-
  Layer 7 (grammar): the reader: what lies in its box; next, fail, take, need, word, at.
  Layer 7 (grammar): the reader's own functions: next, fail, take, need, word.
  Layer 7 (grammar): a part of the grammar, as a function of the program; allowances, relations, types that lie in memory.
  Layer 7 (grammar): each and list, at nodes, allowances, relations, types. Written by gen/mk_gr.py.
  Layer 7 (grammar): rows behind rows; list, at nodes and allowances. Written by gen/mk_gl.py.
-/
import Derived.Test.YtopncohhagebbaaDoorMgMem
import Derived.Test.YtopncohhagebbaaDoorMgPure
import Derived.Test.YtopncohhagebbaaDoorMgLex
import Derived.Deep.LoopGhost
namespace Go.Proofs.YtopncohhagebbaaDoor
open Go.RowKit
namespace Gr
open Knot (Turns NewRow)
open Tr (Nd none0)
open Sg (Tok kt TokAt)

/-- What a call of the package's parts stands on: the reader's box, the tokens and their block, the end, the two errors. -/
structure Ctx where
  R : Nat
  G : Nat
  L : List Tok
  e : Nat × Nat
  a0 : Addr
  a1 : Addr
/-- All texts of tokens are short. -/
def Short (l : List K) : Prop := ∀ t ∈ l, t.2.length ≤ 100000
section
variable {c : Ctx} {o : Nat} {s : St} {x y : World} {F : Nat → Prop}
theorem tok_turn {g k : Nat} {t : Tok} (h : TokAt x g k t) (ht : Turns F x y) (hg : g < x.heap.size) (hF : ¬ F g) : TokAt y g k t :=
  ⟨(ht.cell (p := ⟨g, k, none⟩) hg hF).trans h.1, (ht.cell (p := ⟨g, k + 1, none⟩) hg hF).trans h.2.1, (ht.cell (p := ⟨g, k + 2, none⟩) hg hF).trans h.2.2.1, (ht.cell (p := ⟨g, k + 3, none⟩) hg hF).trans h.2.2.2⟩
theorem set_turns (x : World) (i : Nat) (v : Value) : Turns (fun k => k = c.R) x (x.setCell ⟨c.R, i, none⟩ v) := Turns.setCell (F := fun k => k = c.R) (Turns.refl _ x) rfl v
end
end Gr
end Go.Proofs.YtopncohhagebbaaDoor

namespace Go.Proofs.YtopncohhagebbaaDoor
open Go.RowKit
namespace Gr
open Knot (Turns NewRow)
open Tr (Nd none0)
open Sg (Tok kt TokAt txt)

end Gr
end Go.Proofs.YtopncohhagebbaaDoor

namespace Go.Proofs.YtopncohhagebbaaDoor
open Go.RowKit
namespace Gr
open Knot (Turns NewRow)
open Tr (Nd none0 node4 own_slice IsElem)
open Sg (Tok kt)

/-! ### allowances -/
abbrev alV (a : Al) : Value := .agg #[.string a.ty, .string a.rel, .bool a.wild]
theorem al_cells (a : Al) : (alV a).cells = #[.string a.ty, .string a.rel, .bool a.wild] := rfl
def allowE : Elt Al where
  c := 3
  pos := by decide
  is := fun _ _ a v => v = alV a
  cells := fun h => by rw [h]; rfl
  one := fun h u hu => by
    rw [h, al_cells] at hu
    simp at hu
    rcases hu with rfl | rfl | rfl <;> rfl
  turn := fun h _ _ _ => h

/-! ### relations -/
abbrev relV (r : Rl) (av nv : Value) : Value := .agg #[.string r.name, av, .int .i64 r.expr.kind, .string r.expr.ta, .string r.expr.tb, nv]
theorem rel_cells (r : Rl) (av nv : Value) : (relV r av nv).cells = #[.string r.name, av, .int .i64 r.expr.kind, .string r.expr.ta, .string r.expr.tb, nv] := rfl
def RelS (S : Nat → Prop) (w : World) (r : Rl) (v : Value) : Prop :=
  ∃ ao cap no nc B, v = relV r (.slice ao r.allow.length cap) (.slice no r.expr.kids.length nc) ∧ RowS allowE w B 59 (.slice ao r.allow.length cap) r.allow ∧ (∀ k, (Value.slice ao r.allow.length cap).ownBlock = some k → S k) ∧
    NodeS S w r.expr (node4 r.expr.kind r.expr.ta r.expr.tb (.slice no r.expr.kids.length nc))
theorem allow_turn {F : Nat → Prop} {w x : World} {B : Nat} {T : TypeId} {v : Value} {l : List Al} (h : RowS allowE w B T v l) (ht : Turns F w x) (hF : ∀ k, v.ownBlock = some k → ¬ F k) : RowS allowE x B T v l := by
  obtain ⟨vs, h1, h2, h3⟩ := h
  exact ⟨vs, Tr.own_turn h1 ht hF, h2, h3⟩
def relE : Elt Rl where
  c := 6
  pos := by decide
  is := RelS
  cells := fun h => by
    obtain ⟨ao, cap, no, nc, B, rfl, -⟩ := h
    rfl
  one := fun h u hu => by
    obtain ⟨ao, cap, no, nc, B, rfl, -⟩ := h
    rw [rel_cells] at hu
    simp at hu
    rcases hu with rfl | rfl | rfl | rfl | rfl | rfl <;> rfl
  turn := fun h ht hF hS => by
    obtain ⟨ao, cap, no, nc, B, rfl, h1, h3, h2⟩ := h
    exact ⟨ao, cap, no, nc, B, rfl, allow_turn h1 ht fun k hk => hF k (h3 k hk) (h1.own_lt hk).2, fun k hk => hS k (h3 k hk) (h1.own_lt hk).2, h2.turn ht hF hS⟩

/-! ### types -/
abbrev tyV (t : Ty) (rv : Value) : Value := .agg #[.string t.name, rv]
theorem ty_cells (t : Ty) (rv : Value) : (tyV t rv).cells = #[.string t.name, rv] := rfl
def TyS (S : Nat → Prop) (w : World) (t : Ty) (v : Value) : Prop :=
  ∃ ao cap vs B, v = tyV t (.slice ao t.rels.length cap) ∧ w.ownsRow B 54 6 (.slice ao t.rels.length cap) t.rels.length (cellsV vs) ∧ vs.length = t.rels.length ∧ (∀ k, (Value.slice ao t.rels.length cap).ownBlock = some k → S k) ∧
    ∀ (i : Nat) (a : Rl) (u : Value), t.rels[i]? = some a → vs[i]? = some u → RelS S w a u
def tyE : Elt Ty where
  c := 2
  pos := by decide
  is := TyS
  cells := fun h => by
    obtain ⟨ao, cap, vs, B, rfl, -⟩ := h
    rfl
  one := fun h u hu => by
    obtain ⟨ao, cap, vs, B, rfl, -⟩ := h
    rw [ty_cells] at hu
    simp at hu
    rcases hu with rfl | rfl <;> rfl
  turn := fun h ht hF hS => by
    obtain ⟨ao, cap, vs, B, rfl, h1, h2, h3, h4⟩ := h
    exact ⟨ao, cap, vs, B, rfl, Tr.own_turn h1 ht fun k hk => hF k (h3 k hk) (h1.lt k hk).2, h2, fun k hk => hS k (h3 k hk) (h1.lt k hk).2, fun i a u hi hu => relE.turn (h4 i a u hi hu) ht hF hS⟩

/-! ### their rows -/
set_option maxRecDepth 100000 in
theorem elN : ∃ i z b, IsElem Tryd.prog 50 52 i z 4 b ∧ b ≤ 300 := by
  refine ⟨_, _, _, ⟨by kernel_rfl, rfl, rfl, by kernel_rfl, rfl, by kernel_rfl, by omega⟩, ?_⟩
  exact of_decide_eq_true (by kernel_rfl)
set_option maxRecDepth 100000 in
theorem elA : ∃ i z b, IsElem Tryd.prog 49 59 i z 3 b ∧ b ≤ 300 := by
  refine ⟨_, _, _, ⟨by kernel_rfl, rfl, rfl, by kernel_rfl, rfl, by kernel_rfl, by omega⟩, ?_⟩
  exact of_decide_eq_true (by kernel_rfl)
set_option maxRecDepth 100000 in
theorem elR : ∃ i z b, IsElem Tryd.prog 36 54 i z 6 b ∧ b ≤ 300 := by
  refine ⟨_, _, _, ⟨by kernel_rfl, rfl, rfl, by kernel_rfl, rfl, by kernel_rfl, by omega⟩, ?_⟩
  exact of_decide_eq_true (by kernel_rfl)
set_option maxRecDepth 100000 in
theorem elT : ∃ i z b, IsElem Tryd.prog 24 38 i z 2 b ∧ b ≤ 300 := by
  refine ⟨_, _, _, ⟨by kernel_rfl, rfl, rfl, by kernel_rfl, rfl, by kernel_rfl, by omega⟩, ?_⟩
  exact of_decide_eq_true (by kernel_rfl)
theorem new_cells (w : World) (T : TypeId) (cs : List Value) {b : Nat} (hb : b = w.heap.size) : ∀ j u, cs[j]? = some u → (w.alloc (.cells cs.toArray T)).cell? ((⟨b, 0, none⟩ : Addr).add j) = some u := by
  subst hb
  intro j u hj
  rw [Tr.addp, Nat.zero_add, Lib.cell_of_heap (heap_alloc_new w _)]
  simpa using hj
theorem eachs_len {α : Type} {one : St → α × St} {k : Int} (hf : Fine one) (hk : k ≠ 0) (s : St) : (eachs one k s).1.length + (eachs one k s).2.rest.length ≤ s.rest.length := each_len hf hk _ s
end Gr
end Go.Proofs.YtopncohhagebbaaDoor

namespace Go.Proofs.YtopncohhagebbaaDoor
open Go.RowKit
namespace Gr
open Knot (Turns NewRow)
open Tr (Nd none0 node4 own_slice walk_rows)
open Sg (Tok kt)

end Gr
end Go.Proofs.YtopncohhagebbaaDoor

namespace Go.Proofs.YtopncohhagebbaaDoor
open Go.RowKit
namespace Gr
open Knot (Turns NewRow)
open Tr (Nd none0 node4 own_slice walk_rows IsElem append_rows append_none)
open Sg (Tok kt)

section
variable {α : Type} {E : Elt α}
theorem cellsV_one' {w : World} : ∀ {us : List Value} {m : List α}, us.length = m.length → (∀ (i : Nat) (a : α) (u : Value), m[i]? = some a → us[i]? = some u → ∃ S, E.is S w a u) → ∀ c ∈ cellsV us, c.oneCell' = true := by
  intro us m hl h c hc
  rw [cellsV, List.mem_flatMap] at hc
  obtain ⟨u, hu, hc⟩ := hc
  obtain ⟨i, hi, rfl⟩ := List.getElem_of_mem hu
  obtain ⟨S, hS⟩ := h i (m[i]'(by omega)) _ (List.getElem?_eq_getElem _) (List.getElem?_eq_getElem _)
  exact E.one hS c hc
theorem RowS.join {P : Program} {w : World} {t e : TypeId} {i : TypeInfo} {z : Value} {by' : Nat} (T : IsElem P t e i z E.c by') (hby : by' ≤ 300) (ty : TypeId) {B C : Nat} {v u : Value} {l m : List α} (h1 : RowS E w B e v l) (h2 : RowS E w C e u m)
    (hB : B ≤ C) (hlt : ∀ k, v.ownBlock = some k → k < C) (hw : B ≤ w.heap.size) (hz : l.length + m.length ≤ 100000) :
    ∃ v' y, (Builtin.append_ #[t, t] ty #[v, u]).run P w = .ok v' y ∧ RowS E y B e v' (l ++ m) ∧ Turns (fun k => v.ownBlock = some k) w y := by
  obtain ⟨vs, o1, o2, o3⟩ := h1
  obtain ⟨us, p1, p2, p3⟩ := h2
  have hm : ∀ (i : Nat) (a : α) (x : Value), m[i]? = some a → us[i]? = some x → E.is (fun g => C ≤ g) w a x := fun i a x hi hx => Elt.mono (p3 i a x hi hx) fun g hg _ => hg.1
  rcases p1.2 with ⟨rfl, h0⟩ | ⟨g, cap, cur, rfl, hbg, hg, hnc, hcm, hcs, htake⟩
  · have hnil : m = [] := List.eq_nil_of_length_eq_zero h0
    subst hnil
    refine ⟨v, w, append_none T ty o1 (by omega), ?_, Turns.refl _ _⟩
    rw [List.append_nil]
    exact ⟨vs, o1, o2, o3⟩
  · obtain ⟨v', y, hr, ho, hgr, hn⟩ := append_rows T ty o1 hw p1.1 (p1.cells (g := g) rfl) (cellsV_one' p2 fun i a x hi hx => ⟨_, hm i a x hi hx⟩) (by omega) (Nat.le_trans (Nat.mul_le_mul_left _ hby) (by omega)) (c := cap)
    exact ⟨v', y, hr, RowS.grow (C := C) o2 o3 p2 hm (fun k hk _ => ⟨Nat.le_trans hB hk, fun e => by have := hlt k e; omega⟩) ho hgr hn, Turns.of_grown hgr fun k hk => hk⟩
/-- For the walk: a row behind a row. -/
theorem walk_join {P : Program} {w : World} {t e : TypeId} {i : TypeInfo} {z : Value} {by' : Nat} {ops : Array Oper} {Q : Exit → Act → World → Prop} {o : Oper} {rest : List Oper} {a : Act} (T : IsElem P t e i z E.c by') (hby : by' ≤ 300) (hgd : o.guard = none) (s x : Operand) (ho : o.op = .call { callee := .builtin .append, args := #[s, x], argTypes := #[t, t] })
    {B C : Nat} {v u : Value} {l m : List α} (hs : a.eval s = v) (hx : a.eval x = u) (h1 : RowS E w B e v l) (h2 : RowS E w C e u m)
    (hB : B ≤ C) (hlt : ∀ k, v.ownBlock = some k → k < C) (hw : B ≤ w.heap.size) (hz : l.length + m.length ≤ 100000)
    (h : ∀ v' y, RowS E y B e v' (l ++ m) → Turns (fun k => v.ownBlock = some k) w y → wpList P ops Q rest (a.put o.dst v') y) : wpList P ops Q (o :: rest) a w := by
  refine wpList_plain hgd fun K hK => ?_
  obtain ⟨v', y, hr, h3, h4⟩ := RowS.join T hby o.type h1 h2 hB hlt hw hz
  unfold Oper.wp execOp
  simp only [ho, resolve, invoke, builtin, Sem.run_bind, Sem.run_pure, Result.andThen_ok, List.map_toArray, List.map_cons, List.map_nil, hs, hx, hr]
  exact hK _ _ (h v' y h3 h4)
end
theorem own_single {w : World} {T : TypeId} {cs : List Value} {c : Nat} (hc : cs.length = c) : (w.alloc (.cells cs.toArray T)).ownsRow w.heap.size T c (.slice (some ⟨w.heap.size, 0, none⟩) 1 1) 1 cs := by
  refine ⟨by rw [hc, Nat.one_mul], .inr ⟨w.heap.size, 1, cs.toArray, rfl, Nat.le_refl _, heap_alloc_new w _, Nat.le_refl _, by unfold maxLen; omega, by simp [hc], ?_⟩⟩
  rw [List.take_of_length_le]
  simp [hc]

end Gr
end Go.Proofs.YtopncohhagebbaaDoor
