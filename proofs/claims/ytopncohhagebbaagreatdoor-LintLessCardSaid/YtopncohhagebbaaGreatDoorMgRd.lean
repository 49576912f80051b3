/-
  Layer 7 (grammar): the reader: what lies in its box; next, fail, take, need, word, at.
  Layer 7 (grammar): the reader's own functions: next, fail, take, need, word.
  Layer 7 (grammar): a part of the grammar, as a function of the program; allowances, relations, types that lie in memory.
  Layer 7 (grammar): each and list, at nodes, allowances, relations, types. Written by gen/mk_gr.py.
  Layer 7 (grammar): rows behind rows; list, at nodes and allowances. Written by gen/mk_gl.py.
-/
import Derived.Test.YtopncohhagebbaaGreatDoorMgMem
import Derived.Test.YtopncohhagebbaaGreatDoorMgPure
import Derived.Test.YtopncohhagebbaaGreatDoorMgLex
import Derived.Deep.LoopGhost
namespace Go.Proofs.YtopncohhagebbaaGreatDoor
open Go.RowKit
namespace Gr
open Knot (Turns NewRow)
open Tr (Nd none0)
open Sg (Tok kt TokAt)

abbrev tE : TypeId := 267
abbrev sent (a : Addr) : Value := .iface tE (.pointer (some a))
structure Ctx where
  R : Nat
  G : Nat
  L : List Tok
  e : Nat × Nat
  a0 : Addr
  a1 : Addr
def errV (c : Ctx) (n : Nat) : Value := if n = 0 then .nilIface else if n = 11 then sent c.a0 else sent c.a1
def RdB (c : Ctx) (s : Value) (o : Nat) (er : Value) (x : World) : Prop := x.heap[c.R]? = some (.cells #[s, .int .i64 (c.e.1 : Nat), .int .i64 (c.e.2 : Nat), .int .i64 (o : Nat), er] 159 (0, 0))
def Short (l : List K) : Prop := ∀ t ∈ l, t.2.length ≤ 100000
structure Env (c : Ctx) (x : World) : Prop where
  g0 : x.cell? ⟨0, 0, none⟩ = some (sent c.a0)
  g1 : x.cell? ⟨1, 0, none⟩ = some (sent c.a1)
  n0 : 0 < c.R
  n1 : 1 < c.R
  nG : c.G < c.R
  b0 : ∃ ca ta, x.heap[c.a0.block]? = some (.cells ca ta (0, 0))
  b1 : ∃ ca ta, x.heap[c.a1.block]? = some (.cells ca ta (0, 0))
  m0 : c.a0.block < c.R
  m1 : c.a1.block < c.R
  ne : c.a0 ≠ c.a1
  toks : ∀ j (h : j < c.L.length), c.G < x.heap.size ∧ TokAt x c.G (j * 4) c.L[j]
  len : c.L.length ≤ 10000
  short : Short (kt c.L)
structure Rd (c : Ctx) (o : Nat) (s : St) (x : World) : Prop where
  box : ∃ ao cap, RdB c (.slice ao s.rest.length cap) o (errV c s.err) x ∧ s.rest.length ≤ cap ∧ (s.rest ≠ [] → ao = some ⟨c.G, (c.L.length - s.rest.length) * 4, none⟩)
  suf : s.rest <:+ kt c.L
  env : Env c x
section
variable {c : Ctx} {o : Nat} {s : St} {x y : World} {F : Nat → Prop}
theorem tok_turn {g k : Nat} {t : Tok} (h : TokAt x g k t) (ht : Turns F x y) (hg : g < x.heap.size) (hF : ¬ F g) : TokAt y g k t :=
  ⟨(ht.cell (p := ⟨g, k, none⟩) hg hF).trans h.1, (ht.cell (p := ⟨g, k + 1, none⟩) hg hF).trans h.2.1, (ht.cell (p := ⟨g, k + 2, none⟩) hg hF).trans h.2.2.1, (ht.cell (p := ⟨g, k + 3, none⟩) hg hF).trans h.2.2.2⟩
theorem Env.turn (h : Env c x) (ht : Turns F x y) (hF : ∀ g, g < c.R → ¬ F g) : Env c y :=
  ⟨(ht.cell (p := ⟨0, 0, none⟩) (World.block_lt_of_cell? x _ h.g0) (hF _ h.n0)).trans h.g0,
    (ht.cell (p := ⟨1, 0, none⟩) (World.block_lt_of_cell? x _ h.g1) (hF _ h.n1)).trans h.g1, h.n0, h.n1, h.nG,
    (by obtain ⟨ca, ta, hc⟩ := h.b0; exact ⟨ca, ta, ht.heap hc (hF _ h.m0)⟩), (by obtain ⟨ca, ta, hc⟩ := h.b1; exact ⟨ca, ta, ht.heap hc (hF _ h.m1)⟩), h.m0, h.m1, h.ne,
    fun j hj => ⟨Nat.lt_of_lt_of_le (h.toks j hj).1 ht.size, tok_turn (h.toks j hj).2 ht (h.toks j hj).1 (hF _ h.nG)⟩, h.len, h.short⟩
theorem Env.own (h : Env c x) (ht : Turns (fun k => k = c.R) x y) : Env c y := h.turn ht fun g hg e => by omega
theorem Rd.lt (h : Rd c o s x) : c.R < x.heap.size := by
  obtain ⟨ao, cap, hb, -⟩ := h.box
  exact (Array.getElem?_eq_some_iff.1 hb).1
theorem Rd.turn (h : Rd c o s x) (ht : Turns F x y) (hF : ∀ g, g ≤ c.R → ¬ F g) : Rd c o s y := by
  obtain ⟨ao, cap, h1, h2⟩ := h.box
  exact ⟨⟨ao, cap, (ht.block c.R h.lt (hF _ (Nat.le_refl _))).trans h1, h2⟩, h.suf, h.env.turn ht fun g hg => hF g (by omega)⟩
theorem Rd.below (h : Rd c o s x) (hb : Below x.heap.size x y) : Rd c o s y := h.turn (Turns.of_below (F := fun _ => False) hb) fun _ _ h => h
theorem rdb_cells {v er : Value} (h : RdB c v o er x) : x.cell? ⟨c.R, 0, none⟩ = some v ∧ x.cell? ⟨c.R, 1, none⟩ = some (.int .i64 (c.e.1 : Nat)) ∧ x.cell? ⟨c.R, 2, none⟩ = some (.int .i64 (c.e.2 : Nat)) ∧ x.cell? ⟨c.R, 3, none⟩ = some (.int .i64 (o : Nat)) ∧ x.cell? ⟨c.R, 4, none⟩ = some er :=
  ⟨by rw [Lib.cell_of_heap h]; rfl, by rw [Lib.cell_of_heap h]; rfl, by rw [Lib.cell_of_heap h]; rfl, by rw [Lib.cell_of_heap h]; rfl, by rw [Lib.cell_of_heap h]; rfl⟩
theorem rdb_free {v er : Value} (h : RdB c v o er x) (i : Nat) : x.frozen? ⟨c.R, i, none⟩ = false := Lib.frozen_of_heap h i
theorem rdb_rest {v er : Value} (h : RdB c v o er x) (v' : Value) : RdB c v' o er (x.setCell ⟨c.R, 0, none⟩ v') := Lib.heap_setCell_same (i := 0) h v'
theorem rdb_open {v er : Value} (h : RdB c v o er x) (o' : Nat) : RdB c v o' er (x.setCell ⟨c.R, 3, none⟩ (.int .i64 (o' : Nat))) := Lib.heap_setCell_same (i := 3) h _
theorem rdb_err {v er : Value} (h : RdB c v o er x) (er' : Value) : RdB c v o er' (x.setCell ⟨c.R, 4, none⟩ er') := Lib.heap_setCell_same (i := 4) h er'
theorem set_turns (x : World) (i : Nat) (v : Value) : Turns (fun k => k = c.R) x (x.setCell ⟨c.R, i, none⟩ v) := Turns.setCell (F := fun k => k = c.R) (Turns.refl _ x) rfl v
theorem Rd.head (h : Rd c o s x) {t : K} {r : List K} (hr : s.rest = t :: r) : ∃ (hj : c.L.length - s.rest.length < c.L.length), (c.L[c.L.length - s.rest.length].kind, c.L[c.L.length - s.rest.length].text) = t := by
  obtain ⟨p, hp⟩ := h.suf
  have hl : (kt c.L).length = c.L.length := Sg.kt_len _
  have hlen : p.length + s.rest.length = c.L.length := by rw [← hl, ← hp, List.length_append]
  have hs : 1 ≤ s.rest.length := by rw [hr]; simp
  refine ⟨by omega, ?_⟩
  have h1 : (kt c.L)[p.length]? = some t := by rw [← hp, hr]; simp
  have h2 : c.L.length - s.rest.length = p.length := by omega
  rw [kt, List.getElem?_map, List.getElem?_eq_getElem (by omega)] at h1
  simp only [h2]
  exact Option.some.inj h1
theorem Rd.tl (h : Rd c o s x) : (tl s).rest <:+ kt c.L := (tl_suf s).trans h.suf
theorem Rd.short (h : Rd c o s x) : Short s.rest := fun t ht => h.env.short t (h.suf.subset ht)
theorem Rd.len (h : Rd c o s x) : s.rest.length ≤ c.L.length := by have := h.suf.length_le; rwa [Sg.kt_len] at this
end
theorem errV_zero (c : Ctx) : errV c 0 = .nilIface := rfl
theorem errV_some (c : Ctx) {n : Nat} (h : n ≠ 0) : ∃ a, errV c n = sent a := by
  unfold errV
  rw [if_neg h]
  split
  · exact ⟨_, rfl⟩
  · exact ⟨_, rfl⟩
end Gr
end Go.Proofs.YtopncohhagebbaaGreatDoor

namespace Go.Proofs.YtopncohhagebbaaGreatDoor
open Go.RowKit
namespace Gr
open Knot (Turns NewRow)
open Tr (Nd none0)
open Sg (Tok kt TokAt txt elemT sizeT)

theorem index0 {g o n cap : Nat} (hn : 0 < n) (W : World) : (Instr.indexAt 152 (.slice (some ⟨g, o, none⟩) n cap) (.int .i64 0)).run Tryz.prog W = .ok (.pointer (some ⟨g, o, none⟩)) W := by
  rw [run_indexAt_slice W _ _ _ _ _ _ elemT, if_pos ⟨by omega, by omega⟩, sizeT]
  simp only [Result.andThen_ok, Addr.add_lit]
  simp
theorem slice1 {g o n cap : Nat} (hn : 0 < n) (hc : n ≤ cap) : ∃ ao, (∀ W, (Instr.slice 152 (.slice (some ⟨g, o, none⟩) n cap) (some (.int .i64 1)) none none).run Tryz.prog W = .ok (.slice ao (n - 1) (cap - 1)) W) ∧ (2 ≤ n → ao = some ⟨g, o + 4, none⟩) := by
  refine ⟨if cap = 1 then some ⟨g, o, none⟩ else some ⟨g, o + 4, none⟩, fun W => ?_, fun h => if_neg (by omega)⟩
  rw [run_slice_l W 152 (some ⟨g, o, none⟩) n cap elemT .i64 1 (by omega) (by omega), sizeT]
  have e : (1 : Int).toNat = 1 := rfl
  simp only [Result.andThen_ok, sliced, e, Option.map_some, Tr.addp, Nat.one_mul]
set_option maxHeartbeats 1000000 in
theorem next_any {c : Ctx} {o : Nat} {s : St} {x : World} (h : Rd c o s x) : Calls Tryz.prog 92 #[.pointer (some ⟨c.R, 0, none⟩)] x fun e y => e = .returned (.int .i64 (next s)) ∧ y = x := by
  obtain ⟨ao, cap, hb, hcap, hao⟩ := h.box
  have h2 := fun t r (hr : s.rest = t :: r) => h.head hr
  have h3 := h.env.toks
  obtain ⟨c0, -, -, c3, c4⟩ := rdb_cells hb
  cases s with
  | mk rest err =>
  simp only at *
  by_cases he : err = 0
  · subst he
    cases rest with
    | nil =>
      have hx : next ⟨[], 0⟩ = 0 := rfl
      rw [hx]
      rw [errV_zero] at c4
      clear h2 h3 hao h hb
      simp only [List.length_nil] at c0
      go_enter Tryz.func92, Tryz.ntmps92
      go_wp2_with fail
      go_ret
      exact ⟨rfl, rfl⟩
    | cons t r =>
      obtain ⟨hj, ht⟩ := h2 t r rfl
      obtain ⟨hG, k0, -⟩ := h3 _ hj
      have hx : next ⟨t :: r, 0⟩ = t.1 := rfl
      rw [hx]
      have ht1 := congrArg Prod.fst ht
      simp only at ht1
      rw [ht1] at k0
      obtain rfl := hao (by simp)
      have hix := index0 (g := c.G) (o := (c.L.length - (t :: r).length) * 4) (n := (t :: r).length) (cap := cap) (by simp)
      rw [errV_zero] at c4
      have e2 : (((t :: r).length : Int) == 0) = false := by simp; omega
      clear h2 h3 hao h hb
      generalize c.L[c.L.length - (t :: r).length] = tk at *
      clear ht ht1 hG hx
      generalize (t :: r).length = n at *
      clear hj
      go_enter Tryz.func92, Tryz.ntmps92
      go_wp2_with fail
      go_ret
      exact ⟨rfl, rfl⟩
  · have hx : next ⟨rest, err⟩ = 0 := if_neg he
    rw [hx]
    obtain ⟨ea, hea⟩ := errV_some c he
    rw [hea] at c4
    clear h2 h3 hao h hb hea
    go_enter Tryz.func92, Tryz.ntmps92
    go_wp2_with fail
    go_ret
    exact ⟨rfl, rfl⟩

def Does (c : Ctx) (o : Nat) (s : St) (v : Value) (x : World) (e : Ending) (y : World) : Prop := e = .returned v ∧ Rd c o s y ∧ Turns (fun k => k = c.R) x y
theorem Rd.takes {c : Ctx} {o : Nat} {t : K} {r : List K} {er : Nat} {x : World} (h : Rd c o ⟨t :: r, er⟩ x) {ao : Option Addr} {cap : Nat} (hc : r.length ≤ cap) (ha : r ≠ [] → ao = some ⟨c.G, (c.L.length - r.length) * 4, none⟩) :
    Rd c o ⟨r, er⟩ (x.setCell ⟨c.R, 0, none⟩ (.slice ao r.length cap)) := by
  obtain ⟨ao', cap', hb, -, -⟩ := h.box
  exact ⟨⟨ao, cap, rdb_rest hb _, hc, ha⟩, (List.suffix_cons t r).trans h.suf, h.env.own (set_turns x 0 _)⟩
theorem Rd.fails {c : Ctx} {o : Nat} {r : List K} {x : World} (h : Rd c o ⟨r, 0⟩ x) (n : Nat) : Rd c o ⟨r, n⟩ (x.setCell ⟨c.R, 4, none⟩ (errV c n)) := by
  obtain ⟨ao, cap, hb, h1, h2⟩ := h.box
  exact ⟨⟨ao, cap, rdb_err hb _, h1, h2⟩, h.suf, h.env.own (set_turns x 4 _)⟩
set_option maxHeartbeats 1000000 in
theorem take_any {c : Ctx} {o : Nat} {s : St} {x : World} (h : Rd c o s x) (k : Int) (hk : k ≠ 0) : Calls Tryz.prog 125 #[.pointer (some ⟨c.R, 0, none⟩), .int .i64 k] x (Does c o (if next s = k then tl s else s) (.bool (decide (next s = k))) x) := by
  have hn := next_any h
  by_cases hx : next s = k
  · obtain ⟨he, t, r, hr, ht⟩ := next_good (s := s) (by rw [hx]; exact hk)
    rw [if_pos hx, decide_eq_true hx]
    rw [hx] at hn
    cases s with
    | mk rest err =>
    simp only at hr he
    subst hr he
    obtain ⟨ao, cap, hb, hcap, hao⟩ := h.box
    obtain ⟨hj, -⟩ := h.head rfl
    have hlen := h.len
    have hl : (t :: r).length = r.length + 1 := rfl
    simp only at hj hcap hlen
    rw [hl] at hj hcap hlen
    obtain rfl := hao (by simp)
    obtain ⟨ao2, hsl, ha2'⟩ := slice1 (g := c.G) (o := (c.L.length - (t :: r).length) * 4) (n := (t :: r).length) (cap := cap) (by rw [hl]; omega) (by rw [hl]; exact hcap)
    have ha2 : r ≠ [] → ao2 = some ⟨c.G, (c.L.length - r.length) * 4, none⟩ := by
      intro hr
      have := List.length_pos_iff.2 hr
      rw [ha2' (by rw [hl]; omega), hl]
      have : (c.L.length - (r.length + 1)) * 4 + 4 = (c.L.length - r.length) * 4 := by omega
      rw [this]
    rw [show (t :: r).length - 1 = r.length from rfl] at hsl
    have H2 := Lib.hid (And.intro (h.takes (ao := ao2) (cap := cap - 1) (by omega) ha2) (set_turns (c := c) x 0 (.slice ao2 r.length (cap - 1))))
    obtain ⟨c0, -, -, c3, c4⟩ := rdb_cells hb
    have f0 := rdb_free hb 0
    clear ha2 ha2' hao hcap hj h hb hl hlen
    simp only at c0
    generalize (t :: r).length = n at *
    show Calls _ _ _ _ (Does c o ⟨r, 0⟩ (.bool true) x)
    have HN := Lib.hid hn
    clear hn hx ht
    go_enter Tryz.func125, Tryz.ntmps125
    go_wp2_with (go_at_call 92; refine HN.out.mono ?_; rintro e y ⟨rfl, rfl⟩)
    go_ret
    exact ⟨rfl, H2.out⟩
  · rw [if_neg hx, decide_eq_false hx]
    have HN := Lib.hid hn
    have H2 := Lib.hid h
    have e1 : ((next s) != k) = true := by simpa using hx
    clear hn hx h
    generalize next s = n at *
    go_enter Tryz.func125, Tryz.ntmps125
    go_wp2_with (go_at_call 92; refine HN.out.mono ?_; rintro e y ⟨rfl, rfl⟩)
    go_ret
    exact ⟨rfl, H2.out, Turns.refl _ _⟩
set_option maxHeartbeats 1000000 in
theorem fail_any {c : Ctx} {o : Nat} {s : St} {x : World} (h : Rd c o s x) {n : Nat} (hn0 : n ≠ 0) : Calls Tryz.prog 93 #[.pointer (some ⟨c.R, 0, none⟩), errV c n] x (Does c o (fail s n) (.tuple #[]) x) := by
  obtain ⟨ao, cap, hb, -, -⟩ := h.box
  obtain ⟨-, -, -, -, c4⟩ := rdb_cells hb
  have f4 := rdb_free hb 4
  by_cases he : s.err = 0
  · rw [fail, if_pos he]
    cases s with
    | mk rest err =>
    simp only at he
    subst he
    have H2 := Lib.hid (And.intro (h.fails n) (set_turns (c := c) x 4 (errV c n)))
    simp only at c4
    rw [errV_zero] at c4
    clear h hb
    obtain ⟨ev, hev⟩ := errV_some c hn0
    rw [hev] at H2
    rw [hev]
    clear hev
    go_enter Tryz.func93, Tryz.ntmps93
    go_wp2_with fail
    go_end0
    exact ⟨rfl, H2.out⟩
  · rw [fail, if_neg he]
    have H2 := Lib.hid h
    obtain ⟨ea, hea⟩ := errV_some c he
    rw [hea] at c4
    clear h hb hea
    obtain ⟨ev, hev⟩ := errV_some c hn0
    rw [hev]
    clear hev
    go_enter Tryz.func93, Tryz.ntmps93
    go_wp2_with fail
    go_end0
    exact ⟨rfl, H2.out, Turns.refl _ _⟩
theorem Rd.g0 {c : Ctx} {o : Nat} {s : St} {x : World} (h : Rd c o s x) : x.cell? ⟨0, 0, none⟩ = some (errV c 11) := h.env.g0
theorem Rd.g1 {c : Ctx} {o : Nat} {s : St} {x : World} (h : Rd c o s x) : x.cell? ⟨1, 0, none⟩ = some (errV c 12) := h.env.g1
set_option maxHeartbeats 1000000 in
theorem need_any {c : Ctx} {o : Nat} {s : St} {x : World} (h : Rd c o s x) (k : Int) (hk : k ≠ 0) : Calls Tryz.prog 127 #[.pointer (some ⟨c.R, 0, none⟩), .int .i64 k] x (Does c o (need s k) (.tuple #[]) x) := by
  have HT := Lib.hid (take_any h k hk)
  unfold need
  by_cases hx : next s = k
  · rw [if_pos hx, decide_eq_true hx] at HT
    rw [if_pos hx]
    clear hx h
    go_enter Tryz.func127, Tryz.ntmps127
    go_wp2_with (go_at_call 125; refine HT.out.mono ?_; rintro e y ⟨rfl, h1, h2⟩)
    go_end0
    exact ⟨rfl, h1, h2⟩
  · rw [if_neg hx, decide_eq_false hx] at HT
    rw [if_neg hx]
    clear hx h
    go_enter Tryz.func127, Tryz.ntmps127
    go_wp2_with (go_at_call 125; refine HT.out.mono ?_; rintro e y ⟨rfl, h1, h2⟩; have g0 := h1.g0)
    refine (fail_any h1 (n := 11) (by decide)).mono ?_
    rintro e z ⟨rfl, h3, h4⟩
    go_wp2_with fail
    go_end0
    exact ⟨rfl, h3, h2.trans h4 fun _ _ h => h⟩
theorem head_text {c : Ctx} {o : Nat} {t : K} {r : List K} {er : Nat} {x : World} (h : Rd c o ⟨t :: r, er⟩ x) : c.G < x.heap.size ∧ x.cell? ⟨c.G, (c.L.length - (t :: r).length) * 4 + 1, none⟩ = some (.string (txt t.2)) := by
  obtain ⟨hj, ht⟩ := h.head rfl
  obtain ⟨hG, -, k1, -⟩ := h.env.toks _ hj
  have := congrArg Prod.snd ht
  simp only at this
  rw [this] at k1
  exact ⟨hG, k1⟩
set_option maxHeartbeats 1000000 in
theorem word_any {c : Ctx} {o : Nat} {s : St} {x : World} (h : Rd c o s x) : Calls Tryz.prog 126 #[.pointer (some ⟨c.R, 0, none⟩)] x (Does c o (word s).2 (.string (word s).1) x) := by
  have HT := Lib.hid (take_any h 1 (by decide))
  unfold word
  by_cases hx : next s = 1
  · obtain ⟨he, t, r, hr, ht⟩ := next_good (s := s) (by rw [hx]; decide)
    rw [if_pos hx, decide_eq_true hx] at HT
    rw [if_pos hx]
    cases s with
    | mk rest err =>
    simp only at hr he
    subst hr he
    obtain ⟨ao, cap, hb, hcap, hao⟩ := h.box
    obtain rfl := hao (by simp)
    obtain ⟨c0, -⟩ := rdb_cells hb
    have hix := index0 (g := c.G) (o := (c.L.length - (t :: r).length) * 4) (n := (t :: r).length) (cap := cap) (by simp)
    have HK := Lib.hid (fun y (hy : Turns (fun k => k = c.R) x y) => by
      obtain ⟨hG, k1⟩ := head_text h
      exact (hy.cell (p := ⟨c.G, (c.L.length - (t :: r).length) * 4 + 1, none⟩) hG (fun e => by have := h.env.nG; simp only at e; omega)).trans k1)
    show Calls _ _ _ _ (Does c o _ (.string (txt t.2)) x)
    clear h hb hcap hao hx ht
    simp only at c0
    generalize (t :: r).length = n at *
    go_enter Tryz.func126, Tryz.ntmps126
    go_wp2_with (go_at_call 125; refine HT.out.mono ?_; rintro e y ⟨rfl, h1, h2⟩; have k1 := HK.out y h2)
    go_ret
    exact ⟨rfl, h1, h2⟩
  · rw [if_neg hx, decide_eq_false hx] at HT
    rw [if_neg hx]
    obtain ⟨ao, cap, hb, -, -⟩ := h.box
    obtain ⟨c0, -⟩ := rdb_cells hb
    clear hx h hb
    go_enter Tryz.func126, Tryz.ntmps126
    go_wp2_with (go_at_call 125; refine HT.out.mono ?_; rintro e y ⟨rfl, h1, h2⟩; have g0 := h1.g0)
    refine (fail_any h1 (n := 11) (by decide)).mono ?_
    rintro e z ⟨rfl, h3, h4⟩
    go_wp2_with fail
    go_ret
    exact ⟨rfl, h3, h2.trans h4 fun _ _ h => h⟩
end Gr
end Go.Proofs.YtopncohhagebbaaGreatDoor

namespace Go.Proofs.YtopncohhagebbaaGreatDoor
open Go.RowKit
namespace Gr
open Knot (Turns NewRow)
open Tr (Nd none0 node4 own_slice IsElem)
open Sg (Tok kt)

def Out {α : Type} (E : Elt α) (c : Ctx) (o : Nat) (r : α × St) (x : World) (e : Ending) (y : World) : Prop :=
  ∃ v, e = .returned v ∧ E.is (fun g => x.heap.size ≤ g) y r.1 v ∧ Rd c o r.2 y ∧ Turns (fun k => k = c.R) x y
structure Part {α : Type} (E : Elt α) (c : Ctx) (o : Nat) (f : FuncId) (p : St → α × St) : Prop where
  enter : ∀ args W, (callFunc f args).run Tryz.prog W = .ok (.enter f args) W
  run : ∀ s x, Rd c o s x → Calls Tryz.prog f #[.pointer (some ⟨c.R, 0, none⟩)] x (Out E c o (p s) x)
def Outs {α : Type} (E : Elt α) (T : TypeId) (c : Ctx) (o : Nat) (r : List α × St) (x : World) (e : Ending) (y : World) : Prop :=
  ∃ v, e = .returned v ∧ RowS E y x.heap.size T v r.1 ∧ Rd c o r.2 y ∧ Turns (fun k => k = c.R) x y

abbrev alV (a : Al) : Value := .agg #[.string a.ty, .string a.rel, .bool a.wild]
theorem al_cells (a : Al) : (alV a).cells = #[.string a.ty, .string a.rel, .bool a.wild] := rfl
def allowE : Elt Al where
  c := 3
  pos := by decide
  is := fun _ _ a v => v = alV a
  cells := fun h => by rw [h]; rfl
  one := fun h u hu => by
    rw [h, al_cells] at hu
    simp at hu
    rcases hu with rfl | rfl | rfl <;> rfl
  turn := fun h _ _ _ => h

abbrev relV (r : Rl) (av nv : Value) : Value := .agg #[.string r.name, av, .int .i64 r.expr.kind, .string r.expr.ta, .string r.expr.tb, nv]
theorem rel_cells (r : Rl) (av nv : Value) : (relV r av nv).cells = #[.string r.name, av, .int .i64 r.expr.kind, .string r.expr.ta, .string r.expr.tb, nv] := rfl
def RelS (S : Nat → Prop) (w : World) (r : Rl) (v : Value) : Prop :=
  ∃ ao cap no nc B, v = relV r (.slice ao r.allow.length cap) (.slice no r.expr.kids.length nc) ∧ RowS allowE w B 43 (.slice ao r.allow.length cap) r.allow ∧ (∀ k, (Value.slice ao r.allow.length cap).ownBlock = some k → S k) ∧
    NodeS S w r.expr (node4 r.expr.kind r.expr.ta r.expr.tb (.slice no r.expr.kids.length nc))
theorem allow_turn {F : Nat → Prop} {w x : World} {B : Nat} {T : TypeId} {v : Value} {l : List Al} (h : RowS allowE w B T v l) (ht : Turns F w x) (hF : ∀ k, v.ownBlock = some k → ¬ F k) : RowS allowE x B T v l := by
  obtain ⟨vs, h1, h2, h3⟩ := h
  exact ⟨vs, Tr.own_turn h1 ht hF, h2, h3⟩
def relE : Elt Rl where
  c := 6
  pos := by decide
  is := RelS
  cells := fun h => by
    obtain ⟨ao, cap, no, nc, B, rfl, -⟩ := h
    rfl
  one := fun h u hu => by
    obtain ⟨ao, cap, no, nc, B, rfl, -⟩ := h
    rw [rel_cells] at hu
    simp at hu
    rcases hu with rfl | rfl | rfl | rfl | rfl | rfl <;> rfl
  turn := fun h ht hF hS => by
    obtain ⟨ao, cap, no, nc, B, rfl, h1, h3, h2⟩ := h
    exact ⟨ao, cap, no, nc, B, rfl, allow_turn h1 ht fun k hk => hF k (h3 k hk) (h1.own_lt hk).2, fun k hk => hS k (h3 k hk) (h1.own_lt hk).2, h2.turn ht hF hS⟩

abbrev tyV (t : Ty) (rv : Value) : Value := .agg #[.string t.name, rv]
theorem ty_cells (t : Ty) (rv : Value) : (tyV t rv).cells = #[.string t.name, rv] := rfl
def TyS (S : Nat → Prop) (w : World) (t : Ty) (v : Value) : Prop :=
  ∃ ao cap vs B, v = tyV t (.slice ao t.rels.length cap) ∧ w.ownsRow B 49 6 (.slice ao t.rels.length cap) t.rels.length (cellsV vs) ∧ vs.length = t.rels.length ∧ (∀ k, (Value.slice ao t.rels.length cap).ownBlock = some k → S k) ∧
    ∀ (i : Nat) (a : Rl) (u : Value), t.rels[i]? = some a → vs[i]? = some u → RelS S w a u
def tyE : Elt Ty where
  c := 2
  pos := by decide
  is := TyS
  cells := fun h => by
    obtain ⟨ao, cap, vs, B, rfl, -⟩ := h
    rfl
  one := fun h u hu => by
    obtain ⟨ao, cap, vs, B, rfl, -⟩ := h
    rw [ty_cells] at hu
    simp at hu
    rcases hu with rfl | rfl <;> rfl
  turn := fun h ht hF hS => by
    obtain ⟨ao, cap, vs, B, rfl, h1, h2, h3, h4⟩ := h
    exact ⟨ao, cap, vs, B, rfl, Tr.own_turn h1 ht fun k hk => hF k (h3 k hk) (h1.lt k hk).2, h2, fun k hk => hS k (h3 k hk) (h1.lt k hk).2, fun i a u hi hu => relE.turn (h4 i a u hi hu) ht hF hS⟩

set_option maxRecDepth 100000 in
theorem elN : ∃ i z b, IsElem Tryz.prog 45 47 i z 4 b ∧ b ≤ 300 := by
  refine ⟨_, _, _, ⟨by kernel_rfl, rfl, rfl, by kernel_rfl, rfl, by kernel_rfl, by omega⟩, ?_⟩
  exact of_decide_eq_true (by kernel_rfl)
set_option maxRecDepth 100000 in
theorem elA : ∃ i z b, IsElem Tryz.prog 44 43 i z 3 b ∧ b ≤ 300 := by
  refine ⟨_, _, _, ⟨by kernel_rfl, rfl, rfl, by kernel_rfl, rfl, by kernel_rfl, by omega⟩, ?_⟩
  exact of_decide_eq_true (by kernel_rfl)
set_option maxRecDepth 100000 in
theorem elR : ∃ i z b, IsElem Tryz.prog 38 49 i z 6 b ∧ b ≤ 300 := by
  refine ⟨_, _, _, ⟨by kernel_rfl, rfl, rfl, by kernel_rfl, rfl, by kernel_rfl, by omega⟩, ?_⟩
  exact of_decide_eq_true (by kernel_rfl)
set_option maxRecDepth 100000 in
theorem elT : ∃ i z b, IsElem Tryz.prog 22 40 i z 2 b ∧ b ≤ 300 := by
  refine ⟨_, _, _, ⟨by kernel_rfl, rfl, rfl, by kernel_rfl, rfl, by kernel_rfl, by omega⟩, ?_⟩
  exact of_decide_eq_true (by kernel_rfl)
theorem new_cells (w : World) (T : TypeId) (cs : List Value) {b : Nat} (hb : b = w.heap.size) : ∀ j u, cs[j]? = some u → (w.alloc (.cells cs.toArray T)).cell? ((⟨b, 0, none⟩ : Addr).add j) = some u := by
  subst hb
  intro j u hj
  rw [Tr.addp, Nat.zero_add, Lib.cell_of_heap (heap_alloc_new w _)]
  simpa using hj
theorem eachs_len {α : Type} {one : St → α × St} {k : Int} (hf : Fine one) (hk : k ≠ 0) (s : St) : (eachs one k s).1.length + (eachs one k s).2.rest.length ≤ s.rest.length := each_len hf hk _ s
end Gr
end Go.Proofs.YtopncohhagebbaaGreatDoor

namespace Go.Proofs.YtopncohhagebbaaGreatDoor
open Go.RowKit
namespace Gr
open Knot (Turns NewRow)
open Tr (Nd none0 node4 own_slice walk_rows)
open Sg (Tok kt)

structure Ea {α : Type} (E : Elt α) (T : TypeId) (c : Ctx) (o : Nat) (p : St → α × St) (k : Int) (r : List α × St) (B : Nat) (w : World) (v : Value) (l : List α) (s : St) (x : World) : Prop where
  row : RowS E x B T v l
  rd : Rd c o s x
  turns : Turns (fun k => k = c.R) w x
  low : B ≤ w.heap.size ∧ c.R < B
  more : (l ++ (eachs p k s).1, (eachs p k s).2) = r
  len : l.length + s.rest.length ≤ 10000

set_option maxHeartbeats 4000000 in
set_option maxRecDepth 100000 in
theorem eachN_any {c : Ctx} {o : Nat} {f : FuncId} {p : St → Nd × St} (hp : Part nodeE c o f p) (hf : Fine p) {k : Int} (hk : k ≠ 0) {s : St} {x : World} (h : Rd c o s x) :
    Calls Tryz.prog 181 #[.pointer (some ⟨c.R, 0, none⟩), .int .i64 k, .func (.func f) #[] #[]] x (Outs nodeE 47 c o (eachs p k s) x) := by
  have HE := hp.enter
  have HP := Lib.hid hp
  have HF := Lib.hid hf
  have H0 : Ea nodeE 47 c o p k (eachs p k s) x.heap.size x (.slice none 0 0) [] s x :=
    ⟨RowS.nil _ _ _ _, h, Turns.refl _ _, ⟨Nat.le_refl _, h.lt⟩, rfl, by have := h.len; have := h.env.len; simp; omega⟩
  have H0 := Lib.hid H0
  clear hp hf h
  go_enter Tryz.func181, Tryz.ntmps181
  go_wp2_with fail
  go_loopg [7] s.rest.length (fun q lv wr => ∃ (l : List Nd) (si : St), q = si.rest.length ∧ Hid (Ea nodeE 47 c o p k (eachs p k s) x.heap.size x lv l si wr))
  case atStart => exact ⟨[], s, rfl, H0⟩
  case round =>
    clear H0
    obtain ⟨l, si, rfl, HA⟩ := hrel
    obtain ⟨lo, lc, rfl⟩ := HA.out.row.slice
    have ht := take_any HA.out.rd k hk
    by_cases hn : next si = k
    · rw [if_pos hn, decide_eq_true hn] at ht
      have HT := Lib.hid ht
      have HN := Lib.hid hn
      clear ht hn
      go_wp2_with (go_at_call 125; refine HT.out.mono ?_; rintro e y ⟨rfl, h1, h2⟩)
      refine (HP.out.run _ _ h1).mono ?_
      rintro e z ⟨v, rfl, hv, h3, h4⟩
      have hz : x.heap.size ≤ y.heap.size := Nat.le_trans HA.out.turns.size h2.size
      have hR : c.R < x.heap.size := HA.out.low.2
      have hlt : ∀ g, (Value.slice lo l.length lc).ownBlock = some g → g < y.heap.size := fun g hg => Nat.lt_of_lt_of_le (HA.out.row.own_lt hg).2 h2.size
      have hrow : RowS nodeE z x.heap.size 47 (Value.slice lo l.length lc) l := (HA.out.row.turn h2 fun g hg _ e => by subst e; omega).turn h4 fun g hg _ e => by subst e; omega
      have HV := Lib.hid hv
      obtain ⟨ao, cap, us, rfl, -⟩ := NodeS.open hv
      have al : Below z.heap.size z (z.alloc (.cells ([.int .i64 (p (tl si)).1.kind, .string (p (tl si)).1.ta, .string (p (tl si)).1.tb, .slice ao (p (tl si)).1.kids.length cap]).toArray 47)) := (Below.refl _ _).alloc (Nat.le_refl _) _
      have HV2 := Lib.hid (Elt.below (E := nodeE) HV.out al)
      obtain ⟨vs, o1, o2, o3⟩ := hrow.below al
      have H3 := Lib.hid (h3.below al)
      have H4 := Lib.hid (((HA.out.turns.trans h2 fun _ _ h => h).trans h4 fun _ _ h => h).then_below al)
      obtain ⟨ti, tz, tb, TE, hT⟩ := elN
      have HO := Lib.hid (And.intro o1 (And.intro o2 (And.intro o3 (And.intro TE hT))))
      have HL := Lib.hid (And.intro hlt (And.intro hz (And.intro h4.size al.size)))
      have hlen : l.length ≤ 10000 := by have := HA.out.len; omega
      have HM := Lib.hid HA.out.more
      have HLe := Lib.hid HA.out.len
      have HLo := Lib.hid HA.out.low
      clear hv h3 h4 hrow o1 o2 o3 TE hT hlt hz h1 h2 HA HV al HT HE
      go_wp2_with (at_builtin; refine walk_rows HO.out.2.2.2.1 rfl _ _ rfl rfl rfl HO.out.1 (by have := HL.out.2; omega) (m := 1) rfl (new_cells _ _ ([.int .i64 (p (tl si)).1.kind, .string (p (tl si)).1.ta, .string (p (tl si)).1.tb, .slice ao (p (tl si)).1.kids.length cap]) (by simp)) (by intro u' hu'; simp at hu'; rcases hu' with rfl | rfl | rfl | rfl <;> rfl) (by omega) (Nat.le_trans (Nat.mul_le_mul_left _ HO.out.2.2.2.2) (by omega)) ?_)
      intro v2 zz r2 g2 n2
      have hrow : RowS nodeE zz x.heap.size 47 v2 (l ++ [(p (tl si)).1]) :=
        RowS.grow (C := y.heap.size) (us := [node4 (p (tl si)).1.kind (p (tl si)).1.ta (p (tl si)).1.tb (.slice ao (p (tl si)).1.kids.length cap)]) HO.out.2.1 HO.out.2.2.1 rfl (fun i a u hi hu => by
          cases i with
          | zero =>
            obtain rfl : (p (tl si)).1 = a := by simpa using hi
            obtain rfl := Option.some.inj hu
            exact HV2.out
          | succ i => simp at hi) (fun g hg _ => ⟨by have := HL.out.2.1; omega, fun e => by have := HL.out.1 g e; omega⟩) (by rw [cellsV_one]; exact r2) g2 n2
      have tg : Turns (fun k => (Value.slice lo l.length lc).ownBlock = some k) _ zz := Turns.of_grown g2 fun k hk => hk
      have hown : ∀ k, (Value.slice lo l.length lc).ownBlock = some k → x.heap.size ≤ k := fun k hk => (HO.out.1.lt k hk).1
      have hEa : Ea nodeE 47 c o p k (eachs p k s) x.heap.size x v2 (l ++ [(p (tl si)).1]) (p (tl si)).2 zz := by
        have hR := HLo.out.2
        refine ⟨hrow, H3.out.turn tg fun g hg e => by have := hown g e; omega, ?_, HLo.out, ?_, ?_⟩
        · refine H4.out.trans (G := fun k => (Value.slice lo l.length lc).ownBlock = some k) tg fun g hg e => by have := hown g e; omega
        · rw [← HM.out, eachs_on HF.out hk HN.out]
          simp
        · have h1 := HLe.out
          have h2 := tl_len (s := si) (by rw [HN.out]; exact hk)
          have h3 := (HF.out.suf (tl si)).length_le
          simp only [List.length_append, List.length_singleton]
          omega
      have HEa := Lib.hid hEa
      have hdec : (p (tl si)).2.rest.length < si.rest.length := by
        have h2 := tl_len (s := si) (by rw [HN.out]; exact hk)
        have h3 := (HF.out.suf (tl si)).length_le
        omega
      clear hrow tg hown hEa r2 g2 n2 HO HL HV2 H3 H4 HM HLe hlen
      go_wp2_with fail
      go_roundg ((p (tl si)).2.rest.length)
      case rel => exact ⟨_, _, rfl, HEa⟩
      case measure => exact hdec
    · rw [if_neg hn, decide_eq_false hn] at ht
      have HT := Lib.hid ht
      have HX := Lib.hid (show eachs p k s = (l, si) by rw [← HA.out.more, eachs_off hn]; simp)
      have HB := Lib.hid (And.intro HA.out.row (And.intro HA.out.turns HA.out.low))
      clear ht hn HA HP HF HE
      go_wp2_with (go_at_call 125; refine HT.out.mono ?_; rintro e y ⟨rfl, h1, h2⟩)
      go_ret
      rw [HX.out]
      exact ⟨_, rfl, HB.out.1.turn h2 fun g hg _ e => by have := HB.out.2.2.2; omega, h1, HB.out.2.1.trans h2 fun _ _ h => h⟩

set_option maxHeartbeats 4000000 in
set_option maxRecDepth 100000 in
theorem eachA_any {c : Ctx} {o : Nat} {f : FuncId} {p : St → Al × St} (hp : Part allowE c o f p) (hf : Fine p) {k : Int} (hk : k ≠ 0) {s : St} {x : World} (h : Rd c o s x) :
    Calls Tryz.prog 173 #[.pointer (some ⟨c.R, 0, none⟩), .int .i64 k, .func (.func f) #[] #[]] x (Outs allowE 43 c o (eachs p k s) x) := by
  have HE := hp.enter
  have HP := Lib.hid hp
  have HF := Lib.hid hf
  have H0 : Ea allowE 43 c o p k (eachs p k s) x.heap.size x (.slice none 0 0) [] s x :=
    ⟨RowS.nil _ _ _ _, h, Turns.refl _ _, ⟨Nat.le_refl _, h.lt⟩, rfl, by have := h.len; have := h.env.len; simp; omega⟩
  have H0 := Lib.hid H0
  clear hp hf h
  go_enter Tryz.func173, Tryz.ntmps173
  go_wp2_with fail
  go_loopg [7] s.rest.length (fun q lv wr => ∃ (l : List Al) (si : St), q = si.rest.length ∧ Hid (Ea allowE 43 c o p k (eachs p k s) x.heap.size x lv l si wr))
  case atStart => exact ⟨[], s, rfl, H0⟩
  case round =>
    clear H0
    obtain ⟨l, si, rfl, HA⟩ := hrel
    obtain ⟨lo, lc, rfl⟩ := HA.out.row.slice
    have ht := take_any HA.out.rd k hk
    by_cases hn : next si = k
    · rw [if_pos hn, decide_eq_true hn] at ht
      have HT := Lib.hid ht
      have HN := Lib.hid hn
      clear ht hn
      go_wp2_with (go_at_call 125; refine HT.out.mono ?_; rintro e y ⟨rfl, h1, h2⟩)
      refine (HP.out.run _ _ h1).mono ?_
      rintro e z ⟨v, rfl, hv, h3, h4⟩
      have hz : x.heap.size ≤ y.heap.size := Nat.le_trans HA.out.turns.size h2.size
      have hR : c.R < x.heap.size := HA.out.low.2
      have hlt : ∀ g, (Value.slice lo l.length lc).ownBlock = some g → g < y.heap.size := fun g hg => Nat.lt_of_lt_of_le (HA.out.row.own_lt hg).2 h2.size
      have hrow : RowS allowE z x.heap.size 43 (Value.slice lo l.length lc) l := (HA.out.row.turn h2 fun g hg _ e => by subst e; omega).turn h4 fun g hg _ e => by subst e; omega
      have HV := Lib.hid hv
      obtain rfl : v = alV _ := HV.out
      have al : Below z.heap.size z (z.alloc (.cells ([.string (p (tl si)).1.ty, .string (p (tl si)).1.rel, .bool (p (tl si)).1.wild]).toArray 43)) := (Below.refl _ _).alloc (Nat.le_refl _) _
      have HV2 := Lib.hid (Elt.below (E := allowE) HV.out al)
      obtain ⟨vs, o1, o2, o3⟩ := hrow.below al
      have H3 := Lib.hid (h3.below al)
      have H4 := Lib.hid (((HA.out.turns.trans h2 fun _ _ h => h).trans h4 fun _ _ h => h).then_below al)
      obtain ⟨ti, tz, tb, TE, hT⟩ := elA
      have HO := Lib.hid (And.intro o1 (And.intro o2 (And.intro o3 (And.intro TE hT))))
      have HL := Lib.hid (And.intro hlt (And.intro hz (And.intro h4.size al.size)))
      have hlen : l.length ≤ 10000 := by have := HA.out.len; omega
      have HM := Lib.hid HA.out.more
      have HLe := Lib.hid HA.out.len
      have HLo := Lib.hid HA.out.low
      clear hv h3 h4 hrow o1 o2 o3 TE hT hlt hz h1 h2 HA HV al HT HE
      go_wp2_with (at_builtin; refine walk_rows HO.out.2.2.2.1 rfl _ _ rfl rfl rfl HO.out.1 (by have := HL.out.2; omega) (m := 1) rfl (new_cells _ _ ([.string (p (tl si)).1.ty, .string (p (tl si)).1.rel, .bool (p (tl si)).1.wild]) (by simp)) (by intro u' hu'; simp at hu'; rcases hu' with rfl | rfl | rfl <;> rfl) (by omega) (Nat.le_trans (Nat.mul_le_mul_left _ HO.out.2.2.2.2) (by omega)) ?_)
      intro v2 zz r2 g2 n2
      have hrow : RowS allowE zz x.heap.size 43 v2 (l ++ [(p (tl si)).1]) :=
        RowS.grow (C := y.heap.size) (us := [alV (p (tl si)).1]) HO.out.2.1 HO.out.2.2.1 rfl (fun i a u hi hu => by
          cases i with
          | zero =>
            obtain rfl : (p (tl si)).1 = a := by simpa using hi
            obtain rfl := Option.some.inj hu
            exact HV2.out
          | succ i => simp at hi) (fun g hg _ => ⟨by have := HL.out.2.1; omega, fun e => by have := HL.out.1 g e; omega⟩) (by rw [cellsV_one]; exact r2) g2 n2
      have tg : Turns (fun k => (Value.slice lo l.length lc).ownBlock = some k) _ zz := Turns.of_grown g2 fun k hk => hk
      have hown : ∀ k, (Value.slice lo l.length lc).ownBlock = some k → x.heap.size ≤ k := fun k hk => (HO.out.1.lt k hk).1
      have hEa : Ea allowE 43 c o p k (eachs p k s) x.heap.size x v2 (l ++ [(p (tl si)).1]) (p (tl si)).2 zz := by
        have hR := HLo.out.2
        refine ⟨hrow, H3.out.turn tg fun g hg e => by have := hown g e; omega, ?_, HLo.out, ?_, ?_⟩
        · refine H4.out.trans (G := fun k => (Value.slice lo l.length lc).ownBlock = some k) tg fun g hg e => by have := hown g e; omega
        · rw [← HM.out, eachs_on HF.out hk HN.out]
          simp
        · have h1 := HLe.out
          have h2 := tl_len (s := si) (by rw [HN.out]; exact hk)
          have h3 := (HF.out.suf (tl si)).length_le
          simp only [List.length_append, List.length_singleton]
          omega
      have HEa := Lib.hid hEa
      have hdec : (p (tl si)).2.rest.length < si.rest.length := by
        have h2 := tl_len (s := si) (by rw [HN.out]; exact hk)
        have h3 := (HF.out.suf (tl si)).length_le
        omega
      clear hrow tg hown hEa r2 g2 n2 HO HL HV2 H3 H4 HM HLe hlen
      go_wp2_with fail
      go_roundg ((p (tl si)).2.rest.length)
      case rel => exact ⟨_, _, rfl, HEa⟩
      case measure => exact hdec
    · rw [if_neg hn, decide_eq_false hn] at ht
      have HT := Lib.hid ht
      have HX := Lib.hid (show eachs p k s = (l, si) by rw [← HA.out.more, eachs_off hn]; simp)
      have HB := Lib.hid (And.intro HA.out.row (And.intro HA.out.turns HA.out.low))
      clear ht hn HA HP HF HE
      go_wp2_with (go_at_call 125; refine HT.out.mono ?_; rintro e y ⟨rfl, h1, h2⟩)
      go_ret
      rw [HX.out]
      exact ⟨_, rfl, HB.out.1.turn h2 fun g hg _ e => by have := HB.out.2.2.2; omega, h1, HB.out.2.1.trans h2 fun _ _ h => h⟩

set_option maxHeartbeats 4000000 in
set_option maxRecDepth 100000 in
theorem eachR_any {c : Ctx} {o : Nat} {f : FuncId} {p : St → Rl × St} (hp : Part relE c o f p) (hf : Fine p) {k : Int} (hk : k ≠ 0) {s : St} {x : World} (h : Rd c o s x) :
    Calls Tryz.prog 128 #[.pointer (some ⟨c.R, 0, none⟩), .int .i64 k, .func (.func f) #[] #[]] x (Outs relE 49 c o (eachs p k s) x) := by
  have HE := hp.enter
  have HP := Lib.hid hp
  have HF := Lib.hid hf
  have H0 : Ea relE 49 c o p k (eachs p k s) x.heap.size x (.slice none 0 0) [] s x :=
    ⟨RowS.nil _ _ _ _, h, Turns.refl _ _, ⟨Nat.le_refl _, h.lt⟩, rfl, by have := h.len; have := h.env.len; simp; omega⟩
  have H0 := Lib.hid H0
  clear hp hf h
  go_enter Tryz.func128, Tryz.ntmps128
  go_wp2_with fail
  go_loopg [7] s.rest.length (fun q lv wr => ∃ (l : List Rl) (si : St), q = si.rest.length ∧ Hid (Ea relE 49 c o p k (eachs p k s) x.heap.size x lv l si wr))
  case atStart => exact ⟨[], s, rfl, H0⟩
  case round =>
    clear H0
    obtain ⟨l, si, rfl, HA⟩ := hrel
    obtain ⟨lo, lc, rfl⟩ := HA.out.row.slice
    have ht := take_any HA.out.rd k hk
    by_cases hn : next si = k
    · rw [if_pos hn, decide_eq_true hn] at ht
      have HT := Lib.hid ht
      have HN := Lib.hid hn
      clear ht hn
      go_wp2_with (go_at_call 125; refine HT.out.mono ?_; rintro e y ⟨rfl, h1, h2⟩)
      refine (HP.out.run _ _ h1).mono ?_
      rintro e z ⟨v, rfl, hv, h3, h4⟩
      have hz : x.heap.size ≤ y.heap.size := Nat.le_trans HA.out.turns.size h2.size
      have hR : c.R < x.heap.size := HA.out.low.2
      have hlt : ∀ g, (Value.slice lo l.length lc).ownBlock = some g → g < y.heap.size := fun g hg => Nat.lt_of_lt_of_le (HA.out.row.own_lt hg).2 h2.size
      have hrow : RowS relE z x.heap.size 49 (Value.slice lo l.length lc) l := (HA.out.row.turn h2 fun g hg _ e => by subst e; omega).turn h4 fun g hg _ e => by subst e; omega
      have HV := Lib.hid hv
      obtain ⟨ao, cap, no, nc, B, rfl, -⟩ := (show RelS _ _ _ _ from HV.out)
      have al : Below z.heap.size z (z.alloc (.cells ([.string (p (tl si)).1.name, .slice ao (p (tl si)).1.allow.length cap, .int .i64 (p (tl si)).1.expr.kind, .string (p (tl si)).1.expr.ta, .string (p (tl si)).1.expr.tb, .slice no (p (tl si)).1.expr.kids.length nc]).toArray 49)) := (Below.refl _ _).alloc (Nat.le_refl _) _
      have HV2 := Lib.hid (Elt.below (E := relE) HV.out al)
      obtain ⟨vs, o1, o2, o3⟩ := hrow.below al
      have H3 := Lib.hid (h3.below al)
      have H4 := Lib.hid (((HA.out.turns.trans h2 fun _ _ h => h).trans h4 fun _ _ h => h).then_below al)
      obtain ⟨ti, tz, tb, TE, hT⟩ := elR
      have HO := Lib.hid (And.intro o1 (And.intro o2 (And.intro o3 (And.intro TE hT))))
      have HL := Lib.hid (And.intro hlt (And.intro hz (And.intro h4.size al.size)))
      have hlen : l.length ≤ 10000 := by have := HA.out.len; omega
      have HM := Lib.hid HA.out.more
      have HLe := Lib.hid HA.out.len
      have HLo := Lib.hid HA.out.low
      clear hv h3 h4 hrow o1 o2 o3 TE hT hlt hz h1 h2 HA HV al HT HE
      go_wp2_with (at_builtin; refine walk_rows HO.out.2.2.2.1 rfl _ _ rfl rfl rfl HO.out.1 (by have := HL.out.2; omega) (m := 1) rfl (new_cells _ _ ([.string (p (tl si)).1.name, .slice ao (p (tl si)).1.allow.length cap, .int .i64 (p (tl si)).1.expr.kind, .string (p (tl si)).1.expr.ta, .string (p (tl si)).1.expr.tb, .slice no (p (tl si)).1.expr.kids.length nc]) (by simp)) (by intro u' hu'; simp at hu'; rcases hu' with rfl | rfl | rfl | rfl | rfl | rfl <;> rfl) (by omega) (Nat.le_trans (Nat.mul_le_mul_left _ HO.out.2.2.2.2) (by omega)) ?_)
      intro v2 zz r2 g2 n2
      have hrow : RowS relE zz x.heap.size 49 v2 (l ++ [(p (tl si)).1]) :=
        RowS.grow (C := y.heap.size) (us := [relV (p (tl si)).1 (.slice ao (p (tl si)).1.allow.length cap) (.slice no (p (tl si)).1.expr.kids.length nc)]) HO.out.2.1 HO.out.2.2.1 rfl (fun i a u hi hu => by
          cases i with
          | zero =>
            obtain rfl : (p (tl si)).1 = a := by simpa using hi
            obtain rfl := Option.some.inj hu
            exact HV2.out
          | succ i => simp at hi) (fun g hg _ => ⟨by have := HL.out.2.1; omega, fun e => by have := HL.out.1 g e; omega⟩) (by rw [cellsV_one]; exact r2) g2 n2
      have tg : Turns (fun k => (Value.slice lo l.length lc).ownBlock = some k) _ zz := Turns.of_grown g2 fun k hk => hk
      have hown : ∀ k, (Value.slice lo l.length lc).ownBlock = some k → x.heap.size ≤ k := fun k hk => (HO.out.1.lt k hk).1
      have hEa : Ea relE 49 c o p k (eachs p k s) x.heap.size x v2 (l ++ [(p (tl si)).1]) (p (tl si)).2 zz := by
        have hR := HLo.out.2
        refine ⟨hrow, H3.out.turn tg fun g hg e => by have := hown g e; omega, ?_, HLo.out, ?_, ?_⟩
        · refine H4.out.trans (G := fun k => (Value.slice lo l.length lc).ownBlock = some k) tg fun g hg e => by have := hown g e; omega
        · rw [← HM.out, eachs_on HF.out hk HN.out]
          simp
        · have h1 := HLe.out
          have h2 := tl_len (s := si) (by rw [HN.out]; exact hk)
          have h3 := (HF.out.suf (tl si)).length_le
          simp only [List.length_append, List.length_singleton]
          omega
      have HEa := Lib.hid hEa
      have hdec : (p (tl si)).2.rest.length < si.rest.length := by
        have h2 := tl_len (s := si) (by rw [HN.out]; exact hk)
        have h3 := (HF.out.suf (tl si)).length_le
        omega
      clear hrow tg hown hEa r2 g2 n2 HO HL HV2 H3 H4 HM HLe hlen
      go_wp2_with fail
      go_roundg ((p (tl si)).2.rest.length)
      case rel => exact ⟨_, _, rfl, HEa⟩
      case measure => exact hdec
    · rw [if_neg hn, decide_eq_false hn] at ht
      have HT := Lib.hid ht
      have HX := Lib.hid (show eachs p k s = (l, si) by rw [← HA.out.more, eachs_off hn]; simp)
      have HB := Lib.hid (And.intro HA.out.row (And.intro HA.out.turns HA.out.low))
      clear ht hn HA HP HF HE
      go_wp2_with (go_at_call 125; refine HT.out.mono ?_; rintro e y ⟨rfl, h1, h2⟩)
      go_ret
      rw [HX.out]
      exact ⟨_, rfl, HB.out.1.turn h2 fun g hg _ e => by have := HB.out.2.2.2; omega, h1, HB.out.2.1.trans h2 fun _ _ h => h⟩

set_option maxHeartbeats 4000000 in
set_option maxRecDepth 100000 in
theorem eachT_any {c : Ctx} {o : Nat} {f : FuncId} {p : St → Ty × St} (hp : Part tyE c o f p) (hf : Fine p) {k : Int} (hk : k ≠ 0) {s : St} {x : World} (h : Rd c o s x) :
    Calls Tryz.prog 96 #[.pointer (some ⟨c.R, 0, none⟩), .int .i64 k, .func (.func f) #[] #[]] x (Outs tyE 40 c o (eachs p k s) x) := by
  have HE := hp.enter
  have HP := Lib.hid hp
  have HF := Lib.hid hf
  have H0 : Ea tyE 40 c o p k (eachs p k s) x.heap.size x (.slice none 0 0) [] s x :=
    ⟨RowS.nil _ _ _ _, h, Turns.refl _ _, ⟨Nat.le_refl _, h.lt⟩, rfl, by have := h.len; have := h.env.len; simp; omega⟩
  have H0 := Lib.hid H0
  clear hp hf h
  go_enter Tryz.func96, Tryz.ntmps96
  go_wp2_with fail
  go_loopg [7] s.rest.length (fun q lv wr => ∃ (l : List Ty) (si : St), q = si.rest.length ∧ Hid (Ea tyE 40 c o p k (eachs p k s) x.heap.size x lv l si wr))
  case atStart => exact ⟨[], s, rfl, H0⟩
  case round =>
    clear H0
    obtain ⟨l, si, rfl, HA⟩ := hrel
    obtain ⟨lo, lc, rfl⟩ := HA.out.row.slice
    have ht := take_any HA.out.rd k hk
    by_cases hn : next si = k
    · rw [if_pos hn, decide_eq_true hn] at ht
      have HT := Lib.hid ht
      have HN := Lib.hid hn
      clear ht hn
      go_wp2_with (go_at_call 125; refine HT.out.mono ?_; rintro e y ⟨rfl, h1, h2⟩)
      refine (HP.out.run _ _ h1).mono ?_
      rintro e z ⟨v, rfl, hv, h3, h4⟩
      have hz : x.heap.size ≤ y.heap.size := Nat.le_trans HA.out.turns.size h2.size
      have hR : c.R < x.heap.size := HA.out.low.2
      have hlt : ∀ g, (Value.slice lo l.length lc).ownBlock = some g → g < y.heap.size := fun g hg => Nat.lt_of_lt_of_le (HA.out.row.own_lt hg).2 h2.size
      have hrow : RowS tyE z x.heap.size 40 (Value.slice lo l.length lc) l := (HA.out.row.turn h2 fun g hg _ e => by subst e; omega).turn h4 fun g hg _ e => by subst e; omega
      have HV := Lib.hid hv
      obtain ⟨ao, cap, us, B, rfl, -⟩ := (show TyS _ _ _ _ from HV.out)
      have al : Below z.heap.size z (z.alloc (.cells ([.string (p (tl si)).1.name, .slice ao (p (tl si)).1.rels.length cap]).toArray 40)) := (Below.refl _ _).alloc (Nat.le_refl _) _
      have HV2 := Lib.hid (Elt.below (E := tyE) HV.out al)
      obtain ⟨vs, o1, o2, o3⟩ := hrow.below al
      have H3 := Lib.hid (h3.below al)
      have H4 := Lib.hid (((HA.out.turns.trans h2 fun _ _ h => h).trans h4 fun _ _ h => h).then_below al)
      obtain ⟨ti, tz, tb, TE, hT⟩ := elT
      have HO := Lib.hid (And.intro o1 (And.intro o2 (And.intro o3 (And.intro TE hT))))
      have HL := Lib.hid (And.intro hlt (And.intro hz (And.intro h4.size al.size)))
      have hlen : l.length ≤ 10000 := by have := HA.out.len; omega
      have HM := Lib.hid HA.out.more
      have HLe := Lib.hid HA.out.len
      have HLo := Lib.hid HA.out.low
      clear hv h3 h4 hrow o1 o2 o3 TE hT hlt hz h1 h2 HA HV al HT HE
      go_wp2_with (at_builtin; refine walk_rows HO.out.2.2.2.1 rfl _ _ rfl rfl rfl HO.out.1 (by have := HL.out.2; omega) (m := 1) rfl (new_cells _ _ ([.string (p (tl si)).1.name, .slice ao (p (tl si)).1.rels.length cap]) (by simp)) (by intro u' hu'; simp at hu'; rcases hu' with rfl | rfl <;> rfl) (by omega) (Nat.le_trans (Nat.mul_le_mul_left _ HO.out.2.2.2.2) (by omega)) ?_)
      intro v2 zz r2 g2 n2
      have hrow : RowS tyE zz x.heap.size 40 v2 (l ++ [(p (tl si)).1]) :=
        RowS.grow (C := y.heap.size) (us := [tyV (p (tl si)).1 (.slice ao (p (tl si)).1.rels.length cap)]) HO.out.2.1 HO.out.2.2.1 rfl (fun i a u hi hu => by
          cases i with
          | zero =>
            obtain rfl : (p (tl si)).1 = a := by simpa using hi
            obtain rfl := Option.some.inj hu
            exact HV2.out
          | succ i => simp at hi) (fun g hg _ => ⟨by have := HL.out.2.1; omega, fun e => by have := HL.out.1 g e; omega⟩) (by rw [cellsV_one]; exact r2) g2 n2
      have tg : Turns (fun k => (Value.slice lo l.length lc).ownBlock = some k) _ zz := Turns.of_grown g2 fun k hk => hk
      have hown : ∀ k, (Value.slice lo l.length lc).ownBlock = some k → x.heap.size ≤ k := fun k hk => (HO.out.1.lt k hk).1
      have hEa : Ea tyE 40 c o p k (eachs p k s) x.heap.size x v2 (l ++ [(p (tl si)).1]) (p (tl si)).2 zz := by
        have hR := HLo.out.2
        refine ⟨hrow, H3.out.turn tg fun g hg e => by have := hown g e; omega, ?_, HLo.out, ?_, ?_⟩
        · refine H4.out.trans (G := fun k => (Value.slice lo l.length lc).ownBlock = some k) tg fun g hg e => by have := hown g e; omega
        · rw [← HM.out, eachs_on HF.out hk HN.out]
          simp
        · have h1 := HLe.out
          have h2 := tl_len (s := si) (by rw [HN.out]; exact hk)
          have h3 := (HF.out.suf (tl si)).length_le
          simp only [List.length_append, List.length_singleton]
          omega
      have HEa := Lib.hid hEa
      have hdec : (p (tl si)).2.rest.length < si.rest.length := by
        have h2 := tl_len (s := si) (by rw [HN.out]; exact hk)
        have h3 := (HF.out.suf (tl si)).length_le
        omega
      clear hrow tg hown hEa r2 g2 n2 HO HL HV2 H3 H4 HM HLe hlen
      go_wp2_with fail
      go_roundg ((p (tl si)).2.rest.length)
      case rel => exact ⟨_, _, rfl, HEa⟩
      case measure => exact hdec
    · rw [if_neg hn, decide_eq_false hn] at ht
      have HT := Lib.hid ht
      have HX := Lib.hid (show eachs p k s = (l, si) by rw [← HA.out.more, eachs_off hn]; simp)
      have HB := Lib.hid (And.intro HA.out.row (And.intro HA.out.turns HA.out.low))
      clear ht hn HA HP HF HE
      go_wp2_with (go_at_call 125; refine HT.out.mono ?_; rintro e y ⟨rfl, h1, h2⟩)
      go_ret
      rw [HX.out]
      exact ⟨_, rfl, HB.out.1.turn h2 fun g hg _ e => by have := HB.out.2.2.2; omega, h1, HB.out.2.1.trans h2 fun _ _ h => h⟩
end Gr
end Go.Proofs.YtopncohhagebbaaGreatDoor

namespace Go.Proofs.YtopncohhagebbaaGreatDoor
open Go.RowKit
namespace Gr
open Knot (Turns NewRow)
open Tr (Nd none0 node4 own_slice walk_rows IsElem append_rows append_none)
open Sg (Tok kt)

section
variable {α : Type} {E : Elt α}
theorem cellsV_one' {w : World} : ∀ {us : List Value} {m : List α}, us.length = m.length → (∀ (i : Nat) (a : α) (u : Value), m[i]? = some a → us[i]? = some u → ∃ S, E.is S w a u) → ∀ c ∈ cellsV us, c.oneCell' = true := by
  intro us m hl h c hc
  rw [cellsV, List.mem_flatMap] at hc
  obtain ⟨u, hu, hc⟩ := hc
  obtain ⟨i, hi, rfl⟩ := List.getElem_of_mem hu
  obtain ⟨S, hS⟩ := h i (m[i]'(by omega)) _ (List.getElem?_eq_getElem _) (List.getElem?_eq_getElem _)
  exact E.one hS c hc
theorem RowS.join {P : Program} {w : World} {t e : TypeId} {i : TypeInfo} {z : Value} {by' : Nat} (T : IsElem P t e i z E.c by') (hby : by' ≤ 300) (ty : TypeId) {B C : Nat} {v u : Value} {l m : List α} (h1 : RowS E w B e v l) (h2 : RowS E w C e u m)
    (hB : B ≤ C) (hlt : ∀ k, v.ownBlock = some k → k < C) (hw : B ≤ w.heap.size) (hz : l.length + m.length ≤ 100000) :
    ∃ v' y, (Builtin.append_ #[t, t] ty #[v, u]).run P w = .ok v' y ∧ RowS E y B e v' (l ++ m) ∧ Turns (fun k => v.ownBlock = some k) w y := by
  obtain ⟨vs, o1, o2, o3⟩ := h1
  obtain ⟨us, p1, p2, p3⟩ := h2
  have hm : ∀ (i : Nat) (a : α) (x : Value), m[i]? = some a → us[i]? = some x → E.is (fun g => C ≤ g) w a x := fun i a x hi hx => Elt.mono (p3 i a x hi hx) fun g hg _ => hg.1
  rcases p1.2 with ⟨rfl, h0⟩ | ⟨g, cap, cur, rfl, hbg, hg, hnc, hcm, hcs, htake⟩
  · have hnil : m = [] := List.eq_nil_of_length_eq_zero h0
    subst hnil
    refine ⟨v, w, append_none T ty o1 (by omega), ?_, Turns.refl _ _⟩
    rw [List.append_nil]
    exact ⟨vs, o1, o2, o3⟩
  · obtain ⟨v', y, hr, ho, hgr, hn⟩ := append_rows T ty o1 hw p1.1 (p1.cells (g := g) rfl) (cellsV_one' p2 fun i a x hi hx => ⟨_, hm i a x hi hx⟩) (by omega) (Nat.le_trans (Nat.mul_le_mul_left _ hby) (by omega)) (c := cap)
    exact ⟨v', y, hr, RowS.grow (C := C) o2 o3 p2 hm (fun k hk _ => ⟨Nat.le_trans hB hk, fun e => by have := hlt k e; omega⟩) ho hgr hn, Turns.of_grown hgr fun k hk => hk⟩
theorem walk_join {P : Program} {w : World} {t e : TypeId} {i : TypeInfo} {z : Value} {by' : Nat} {ops : Array Oper} {Q : Exit → Act → World → Prop} {o : Oper} {rest : List Oper} {a : Act} (T : IsElem P t e i z E.c by') (hby : by' ≤ 300) (hgd : o.guard = none) (s x : Operand) (ho : o.op = .call { callee := .builtin .append, args := #[s, x], argTypes := #[t, t] })
    {B C : Nat} {v u : Value} {l m : List α} (hs : a.eval s = v) (hx : a.eval x = u) (h1 : RowS E w B e v l) (h2 : RowS E w C e u m)
    (hB : B ≤ C) (hlt : ∀ k, v.ownBlock = some k → k < C) (hw : B ≤ w.heap.size) (hz : l.length + m.length ≤ 100000)
    (h : ∀ v' y, RowS E y B e v' (l ++ m) → Turns (fun k => v.ownBlock = some k) w y → wpList P ops Q rest (a.put o.dst v') y) : wpList P ops Q (o :: rest) a w := by
  refine wpList_plain hgd fun K hK => ?_
  obtain ⟨v', y, hr, h3, h4⟩ := RowS.join T hby o.type h1 h2 hB hlt hw hz
  unfold Oper.wp execOp
  simp only [ho, resolve, invoke, builtin, Sem.run_bind, Sem.run_pure, Result.andThen_ok, List.map_toArray, List.map_cons, List.map_nil, hs, hx, hr]
  exact hK _ _ (h v' y h3 h4)
end
theorem own_single {w : World} {T : TypeId} {cs : List Value} {c : Nat} (hc : cs.length = c) : (w.alloc (.cells cs.toArray T)).ownsRow w.heap.size T c (.slice (some ⟨w.heap.size, 0, none⟩) 1 1) 1 cs := by
  refine ⟨by rw [hc, Nat.one_mul], .inr ⟨w.heap.size, 1, cs.toArray, rfl, Nat.le_refl _, heap_alloc_new w _, Nat.le_refl _, by unfold maxLen; omega, by simp [hc], ?_⟩⟩
  rw [List.take_of_length_le]
  simp [hc]

set_option maxHeartbeats 4000000 in
set_option maxRecDepth 100000 in
theorem listN_any {c : Ctx} {o : Nat} {f : FuncId} {p : St → Nd × St} (hp : Part nodeE c o f p) (hf : Fine p) {k : Int} (hk : k ≠ 0) {s : St} {x : World} (h : Rd c o s x) :
    Calls Tryz.prog 175 #[.pointer (some ⟨c.R, 0, none⟩), .int .i64 k, .func (.func f) #[] #[]] x (Outs nodeE 47 c o (list p k s) x) := by
  have HE := hp.enter
  have HP := Lib.hid hp
  have HF := Lib.hid hf
  have HR := Lib.hid h.lt
  have HC := Lib.hid (hp.run s x h)
  have hlen := h.len
  have hlen2 := h.env.len
  have HL := Lib.hid (show s.rest.length ≤ 10000 by omega)
  clear hp hf h hlen hlen2
  go_enter Tryz.func175, Tryz.ntmps175
  go_wp2_with fail
  refine HC.out.mono ?_
  rintro e z ⟨v, rfl, hv, h3, h4⟩
  have HV := Lib.hid hv
  obtain ⟨ao, cap, us, rfl, -⟩ := NodeS.open hv
  have al : Below z.heap.size z (z.alloc (.cells ([.int .i64 (p s).1.kind, .string (p s).1.ta, .string (p s).1.tb, .slice ao (p s).1.kids.length cap]).toArray 47)) := (Below.refl _ _).alloc (Nat.le_refl _) _
  have hrow : RowS nodeE (z.alloc (.cells ([.int .i64 (p s).1.kind, .string (p s).1.ta, .string (p s).1.tb, .slice ao (p s).1.kids.length cap]).toArray 47)) x.heap.size 47 (.slice (some ⟨z.heap.size, 0, none⟩) 1 1) [(p s).1] :=
    RowS.single (C := x.heap.size) (u := node4 (p s).1.kind (p s).1.ta (p s).1.tb (.slice ao (p s).1.kids.length cap)) HV.out (Sg.own_mono (own_single (c := 4) rfl) h4.size) al (Nat.le_refl _) (Nat.le_refl _)
  have H3 := Lib.hid (h3.below al)
  have H4 := Lib.hid (And.intro (h4.then_below al) (And.intro h4.size (show (z.alloc (.cells ([.int .i64 (p s).1.kind, .string (p s).1.ta, .string (p s).1.tb, .slice ao (p s).1.kids.length cap]).toArray 47)).heap.size = z.heap.size + 1 by simp)))
  have HRow := Lib.hid hrow
  have HC2 := Lib.hid (eachN_any HP.out HF.out hk H3.out)
  clear hv h3 h4 al hrow HC HV
  go_wp2_with fail
  refine HC2.out.mono ?_
  rintro e y ⟨ev, rfl, h5, h6, h7⟩
  have hRow2 : RowS nodeE y x.heap.size 47 (.slice (some ⟨z.heap.size, 0, none⟩) 1 1) [(p s).1] := HRow.out.turn h7 fun g hg _ e => by have := HR.out; omega
  have H6 := Lib.hid (And.intro h6 (And.intro h7 (And.intro h5 hRow2)))
  obtain ⟨eo, ec, rfl⟩ := h5.slice
  obtain ⟨ti, tz, tb, TE, hT⟩ := elN
  have HT := Lib.hid (And.intro TE hT)
  clear h5 h6 h7 hRow2 TE hT HC2 HRow
  go_wp2_with (at_builtin; refine walk_join (E := nodeE) HT.out.1 HT.out.2 rfl _ _ rfl rfl rfl H6.out.2.2.2 H6.out.2.2.1 (by have := H4.out.2; omega) (fun k hk => by have h1 : z.heap.size = k := Option.some.inj hk; have := H4.out.2; omega) (by have := H4.out.2; have := H6.out.2.1.size; omega) (by have h1 := eachs_len HF.out hk (p s).2; have h2 := (HF.out.suf s).length_le; have h3 := HL.out; simp only [List.length_singleton]; omega) ?_)
  intro v2 zz r2 t2
  go_wp2_with fail
  obtain ⟨vo, vc, rfl⟩ := r2.slice
  go_ret
  refine ⟨_, rfl, r2, H6.out.1.turn t2 fun g hg e => ?_, (H4.out.1.trans H6.out.2.1 fun _ _ h => h).trans (G := fun k => (Value.slice (some ⟨z.heap.size, 0, none⟩) 1 1).ownBlock = some k) t2 fun g hg e => ?_⟩
  · have h1 : z.heap.size = g := Option.some.inj e
    have := HR.out; have := H4.out.2; omega
  · have h1 : z.heap.size = g := Option.some.inj e
    have := H4.out.2; omega

set_option maxHeartbeats 4000000 in
set_option maxRecDepth 100000 in
theorem listA_any {c : Ctx} {o : Nat} {f : FuncId} {p : St → Al × St} (hp : Part allowE c o f p) (hf : Fine p) {k : Int} (hk : k ≠ 0) {s : St} {x : World} (h : Rd c o s x) :
    Calls Tryz.prog 161 #[.pointer (some ⟨c.R, 0, none⟩), .int .i64 k, .func (.func f) #[] #[]] x (Outs allowE 43 c o (list p k s) x) := by
  have HE := hp.enter
  have HP := Lib.hid hp
  have HF := Lib.hid hf
  have HR := Lib.hid h.lt
  have HC := Lib.hid (hp.run s x h)
  have hlen := h.len
  have hlen2 := h.env.len
  have HL := Lib.hid (show s.rest.length ≤ 10000 by omega)
  clear hp hf h hlen hlen2
  go_enter Tryz.func161, Tryz.ntmps161
  go_wp2_with fail
  refine HC.out.mono ?_
  rintro e z ⟨v, rfl, hv, h3, h4⟩
  have HV := Lib.hid hv
  obtain rfl : v = alV _ := HV.out
  have al : Below z.heap.size z (z.alloc (.cells ([.string (p s).1.ty, .string (p s).1.rel, .bool (p s).1.wild]).toArray 43)) := (Below.refl _ _).alloc (Nat.le_refl _) _
  have hrow : RowS allowE (z.alloc (.cells ([.string (p s).1.ty, .string (p s).1.rel, .bool (p s).1.wild]).toArray 43)) x.heap.size 43 (.slice (some ⟨z.heap.size, 0, none⟩) 1 1) [(p s).1] :=
    RowS.single (C := x.heap.size) (u := alV (p s).1) HV.out (Sg.own_mono (own_single (c := 3) rfl) h4.size) al (Nat.le_refl _) (Nat.le_refl _)
  have H3 := Lib.hid (h3.below al)
  have H4 := Lib.hid (And.intro (h4.then_below al) (And.intro h4.size (show (z.alloc (.cells ([.string (p s).1.ty, .string (p s).1.rel, .bool (p s).1.wild]).toArray 43)).heap.size = z.heap.size + 1 by simp)))
  have HRow := Lib.hid hrow
  have HC2 := Lib.hid (eachA_any HP.out HF.out hk H3.out)
  clear hv h3 h4 al hrow HC HV
  go_wp2_with fail
  refine HC2.out.mono ?_
  rintro e y ⟨ev, rfl, h5, h6, h7⟩
  have hRow2 : RowS allowE y x.heap.size 43 (.slice (some ⟨z.heap.size, 0, none⟩) 1 1) [(p s).1] := HRow.out.turn h7 fun g hg _ e => by have := HR.out; omega
  have H6 := Lib.hid (And.intro h6 (And.intro h7 (And.intro h5 hRow2)))
  obtain ⟨eo, ec, rfl⟩ := h5.slice
  obtain ⟨ti, tz, tb, TE, hT⟩ := elA
  have HT := Lib.hid (And.intro TE hT)
  clear h5 h6 h7 hRow2 TE hT HC2 HRow
  go_wp2_with (at_builtin; refine walk_join (E := allowE) HT.out.1 HT.out.2 rfl _ _ rfl rfl rfl H6.out.2.2.2 H6.out.2.2.1 (by have := H4.out.2; omega) (fun k hk => by have h1 : z.heap.size = k := Option.some.inj hk; have := H4.out.2; omega) (by have := H4.out.2; have := H6.out.2.1.size; omega) (by have h1 := eachs_len HF.out hk (p s).2; have h2 := (HF.out.suf s).length_le; have h3 := HL.out; simp only [List.length_singleton]; omega) ?_)
  intro v2 zz r2 t2
  go_wp2_with fail
  obtain ⟨vo, vc, rfl⟩ := r2.slice
  go_ret
  refine ⟨_, rfl, r2, H6.out.1.turn t2 fun g hg e => ?_, (H4.out.1.trans H6.out.2.1 fun _ _ h => h).trans (G := fun k => (Value.slice (some ⟨z.heap.size, 0, none⟩) 1 1).ownBlock = some k) t2 fun g hg e => ?_⟩
  · have h1 : z.heap.size = g := Option.some.inj e
    have := HR.out; have := H4.out.2; omega
  · have h1 : z.heap.size = g := Option.some.inj e
    have := H4.out.2; omega
end Gr
end Go.Proofs.YtopncohhagebbaaGreatDoor
