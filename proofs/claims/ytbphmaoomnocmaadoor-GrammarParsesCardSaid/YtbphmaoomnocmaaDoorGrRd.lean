/-
  Layer 7 (grammar): the reader: what lies in its box; next, fail, take, need, word, at.
-/
import Derived.Test.YtbphmaoomnocmaaDoorMgMem
import Derived.Test.YtbphmaoomnocmaaDoorMgPure
import Derived.Test.YtbphmaoomnocmaaDoorMgLex
namespace Go.Proofs.YtbphmaoomnocmaaDoor
open Go.RowKit
namespace Gr
open Knot (Turns NewRow)
open Tr (Nd none0)
open Sg (Tok kt TokAt)

abbrev tE : TypeId := 164
abbrev sent (a : Addr) : Value := .iface tE (.pointer (some a))
/-- What a call of the package's parts stands on: the reader's box, the tokens and their block, the end, the two errors. -/
structure Ctx where
  R : Nat
  G : Nat
  L : List Tok
  e : Nat × Nat
  a0 : Addr
  a1 : Addr
def errV (c : Ctx) (n : Nat) : Value := if n = 0 then .nilIface else if n = 11 then sent c.a0 else sent c.a1
def RdB (c : Ctx) (s : Value) (o : Nat) (er : Value) (x : World) : Prop := x.heap[c.R]? = some (.cells #[s, .int .i64 (c.e.1 : Nat), .int .i64 (c.e.2 : Nat), .int .i64 (o : Nat), er] 93 (0, 0))
/-- All texts of tokens are short. -/
def Short (l : List K) : Prop := ∀ t ∈ l, t.2.length ≤ 100000
/-- What lies beside the reader's box. -/
structure Env (c : Ctx) (x : World) : Prop where
  g0 : x.cell? ⟨0, 0, none⟩ = some (sent c.a0)
  g1 : x.cell? ⟨1, 0, none⟩ = some (sent c.a1)
  n0 : 0 < c.R
  n1 : 1 < c.R
  nG : c.G < c.R
  b0 : ∃ ca ta, x.heap[c.a0.block]? = some (.cells ca ta (0, 0))
  b1 : ∃ ca ta, x.heap[c.a1.block]? = some (.cells ca ta (0, 0))
  m0 : c.a0.block < c.R
  m1 : c.a1.block < c.R
  ne : c.a0 ≠ c.a1
  toks : ∀ j (h : j < c.L.length), c.G < x.heap.size ∧ TokAt x c.G (j * 4) c.L[j]
  len : c.L.length ≤ 10000
  short : Short (kt c.L)
/-- The reader: o brackets open. -/
structure Rd (c : Ctx) (o : Nat) (s : St) (x : World) : Prop where
  box : ∃ ao cap, RdB c (.slice ao s.rest.length cap) o (errV c s.err) x ∧ s.rest.length ≤ cap ∧ (s.rest ≠ [] → ao = some ⟨c.G, (c.L.length - s.rest.length) * 4, none⟩)
  suf : s.rest <:+ kt c.L
  env : Env c x
section
variable {c : Ctx} {o : Nat} {s : St} {x y : World} {F : Nat → Prop}
theorem tok_turn {g k : Nat} {t : Tok} (h : TokAt x g k t) (ht : Turns F x y) (hg : g < x.heap.size) (hF : ¬ F g) : TokAt y g k t :=
  ⟨(ht.cell (p := ⟨g, k, none⟩) hg hF).trans h.1, (ht.cell (p := ⟨g, k + 1, none⟩) hg hF).trans h.2.1, (ht.cell (p := ⟨g, k + 2, none⟩) hg hF).trans h.2.2.1, (ht.cell (p := ⟨g, k + 3, none⟩) hg hF).trans h.2.2.2⟩
theorem Env.turn (h : Env c x) (ht : Turns F x y) (hF : ∀ g, g < c.R → ¬ F g) : Env c y :=
  ⟨(ht.cell (p := ⟨0, 0, none⟩) (World.block_lt_of_cell? x _ h.g0) (hF _ h.n0)).trans h.g0,
    (ht.cell (p := ⟨1, 0, none⟩) (World.block_lt_of_cell? x _ h.g1) (hF _ h.n1)).trans h.g1, h.n0, h.n1, h.nG,
    (by obtain ⟨ca, ta, hc⟩ := h.b0; exact ⟨ca, ta, ht.heap hc (hF _ h.m0)⟩), (by obtain ⟨ca, ta, hc⟩ := h.b1; exact ⟨ca, ta, ht.heap hc (hF _ h.m1)⟩), h.m0, h.m1, h.ne,
    fun j hj => ⟨Nat.lt_of_lt_of_le (h.toks j hj).1 ht.size, tok_turn (h.toks j hj).2 ht (h.toks j hj).1 (hF _ h.nG)⟩, h.len, h.short⟩
theorem Env.own (h : Env c x) (ht : Turns (fun k => k = c.R) x y) : Env c y := h.turn ht fun g hg e => by omega
theorem Rd.lt (h : Rd c o s x) : c.R < x.heap.size := by
  obtain ⟨ao, cap, hb, -⟩ := h.box
  exact (Array.getElem?_eq_some_iff.1 hb).1
theorem Rd.turn (h : Rd c o s x) (ht : Turns F x y) (hF : ∀ g, g ≤ c.R → ¬ F g) : Rd c o s y := by
  obtain ⟨ao, cap, h1, h2⟩ := h.box
  exact ⟨⟨ao, cap, (ht.block c.R h.lt (hF _ (Nat.le_refl _))).trans h1, h2⟩, h.suf, h.env.turn ht fun g hg => hF g (by omega)⟩
theorem Rd.below (h : Rd c o s x) (hb : Below x.heap.size x y) : Rd c o s y := h.turn (Turns.of_below (F := fun _ => False) hb) fun _ _ h => h
theorem rdb_cells {v er : Value} (h : RdB c v o er x) : x.cell? ⟨c.R, 0, none⟩ = some v ∧ x.cell? ⟨c.R, 1, none⟩ = some (.int .i64 (c.e.1 : Nat)) ∧ x.cell? ⟨c.R, 2, none⟩ = some (.int .i64 (c.e.2 : Nat)) ∧ x.cell? ⟨c.R, 3, none⟩ = some (.int .i64 (o : Nat)) ∧ x.cell? ⟨c.R, 4, none⟩ = some er :=
  ⟨by rw [Lib.cell_of_heap h]; rfl, by rw [Lib.cell_of_heap h]; rfl, by rw [Lib.cell_of_heap h]; rfl, by rw [Lib.cell_of_heap h]; rfl, by rw [Lib.cell_of_heap h]; rfl⟩
theorem rdb_free {v er : Value} (h : RdB c v o er x) (i : Nat) : x.frozen? ⟨c.R, i, none⟩ = false := Lib.frozen_of_heap h i
theorem rdb_rest {v er : Value} (h : RdB c v o er x) (v' : Value) : RdB c v' o er (x.setCell ⟨c.R, 0, none⟩ v') := Lib.heap_setCell_same (i := 0) h v'
theorem rdb_open {v er : Value} (h : RdB c v o er x) (o' : Nat) : RdB c v o' er (x.setCell ⟨c.R, 3, none⟩ (.int .i64 (o' : Nat))) := Lib.heap_setCell_same (i := 3) h _
theorem rdb_err {v er : Value} (h : RdB c v o er x) (er' : Value) : RdB c v o er' (x.setCell ⟨c.R, 4, none⟩ er') := Lib.heap_setCell_same (i := 4) h er'
theorem set_turns (x : World) (i : Nat) (v : Value) : Turns (fun k => k = c.R) x (x.setCell ⟨c.R, i, none⟩ v) := Turns.setCell (F := fun k => k = c.R) (Turns.refl _ x) rfl v
/-- The first token that is left. -/
theorem Rd.head (h : Rd c o s x) {t : K} {r : List K} (hr : s.rest = t :: r) : ∃ (hj : c.L.length - s.rest.length < c.L.length), (c.L[c.L.length - s.rest.length].kind, c.L[c.L.length - s.rest.length].text) = t := by
  obtain ⟨p, hp⟩ := h.suf
  have hl : (kt c.L).length = c.L.length := Sg.kt_len _
  have hlen : p.length + s.rest.length = c.L.length := by rw [← hl, ← hp, List.length_append]
  have hs : 1 ≤ s.rest.length := by rw [hr]; simp
  refine ⟨by omega, ?_⟩
  have h1 : (kt c.L)[p.length]? = some t := by rw [← hp, hr]; simp
  have h2 : c.L.length - s.rest.length = p.length := by omega
  rw [kt, List.getElem?_map, List.getElem?_eq_getElem (by omega)] at h1
  simp only [h2]
  exact Option.some.inj h1
theorem Rd.tl (h : Rd c o s x) : (tl s).rest <:+ kt c.L := (tl_suf s).trans h.suf
theorem Rd.short (h : Rd c o s x) : Short s.rest := fun t ht => h.env.short t (h.suf.subset ht)
theorem Rd.len (h : Rd c o s x) : s.rest.length ≤ c.L.length := by have := h.suf.length_le; rwa [Sg.kt_len] at this
end
theorem errV_zero (c : Ctx) : errV c 0 = .nilIface := rfl
theorem errV_some (c : Ctx) {n : Nat} (h : n ≠ 0) : ∃ a, errV c n = sent a := by
  unfold errV
  rw [if_neg h]
  split
  · exact ⟨_, rfl⟩
  · exact ⟨_, rfl⟩
end Gr
end Go.Proofs.YtbphmaoomnocmaaDoor
