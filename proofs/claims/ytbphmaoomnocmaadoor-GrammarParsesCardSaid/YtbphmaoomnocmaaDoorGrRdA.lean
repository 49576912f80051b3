/-
  Layer 7 (grammar): the reader's own functions: next, fail, take, need, word.
-/
import Derived.Test.YtbphmaoomnocmaaDoorGrRd
namespace Go.Proofs.YtbphmaoomnocmaaDoor
open Go.RowKit
namespace Gr
open Knot (Turns NewRow)
open Tr (Nd none0)
open Sg (Tok kt TokAt txt elemT sizeT)

theorem index0 {g o n cap : Nat} (hn : 0 < n) (W : World) : (Instr.indexAt 88 (.slice (some ⟨g, o, none⟩) n cap) (.int .i64 0)).run Tryd.prog W = .ok (.pointer (some ⟨g, o, none⟩)) W := by
  rw [run_indexAt_slice W _ _ _ _ _ _ elemT, if_pos ⟨by omega, by omega⟩, sizeT]
  simp only [Result.andThen_ok, Addr.add_lit]
  simp
/-- A list without its first token. -/
theorem slice1 {g o n cap : Nat} (hn : 0 < n) (hc : n ≤ cap) : ∃ ao, (∀ W, (Instr.slice 88 (.slice (some ⟨g, o, none⟩) n cap) (some (.int .i64 1)) none none).run Tryd.prog W = .ok (.slice ao (n - 1) (cap - 1)) W) ∧ (2 ≤ n → ao = some ⟨g, o + 4, none⟩) := by
  refine ⟨if cap = 1 then some ⟨g, o, none⟩ else some ⟨g, o + 4, none⟩, fun W => ?_, fun h => if_neg (by omega)⟩
  rw [run_slice_l W 88 (some ⟨g, o, none⟩) n cap elemT .i64 1 (by omega) (by omega), sizeT]
  have e : (1 : Int).toNat = 1 := rfl
  simp only [Result.andThen_ok, sliced, e, Option.map_some, Tr.addp, Nat.one_mul]
set_option maxHeartbeats 1000000 in
theorem next_any {c : Ctx} {o : Nat} {s : St} {x : World} (h : Rd c o s x) : Calls Tryd.prog 36 #[.pointer (some ⟨c.R, 0, none⟩)] x fun e y => e = .returned (.int .i64 (next s)) ∧ y = x := by
  obtain ⟨ao, cap, hb, hcap, hao⟩ := h.box
  have h2 := fun t r (hr : s.rest = t :: r) => h.head hr
  have h3 := h.env.toks
  obtain ⟨c0, -, -, c3, c4⟩ := rdb_cells hb
  cases s with
  | mk rest err =>
  simp only at *
  by_cases he : err = 0
  · subst he
    cases rest with
    | nil =>
      have hx : next ⟨[], 0⟩ = 0 := rfl
      rw [hx]
      rw [errV_zero] at c4
      clear h2 h3 hao h hb
      simp only [List.length_nil] at c0
      go_enter Tryd.func36, Tryd.ntmps36
      go_wp2_with fail
      go_ret
      exact ⟨rfl, rfl⟩
    | cons t r =>
      obtain ⟨hj, ht⟩ := h2 t r rfl
      obtain ⟨hG, k0, -⟩ := h3 _ hj
      have hx : next ⟨t :: r, 0⟩ = t.1 := rfl
      rw [hx]
      have ht1 := congrArg Prod.fst ht
      simp only at ht1
      rw [ht1] at k0
      obtain rfl := hao (by simp)
      have hix := index0 (g := c.G) (o := (c.L.length - (t :: r).length) * 4) (n := (t :: r).length) (cap := cap) (by simp)
      rw [errV_zero] at c4
      have e2 : (((t :: r).length : Int) == 0) = false := by simp; omega
      clear h2 h3 hao h hb
      generalize c.L[c.L.length - (t :: r).length] = tk at *
      clear ht ht1 hG hx
      generalize (t :: r).length = n at *
      clear hj
      go_enter Tryd.func36, Tryd.ntmps36
      go_wp2_with fail
      go_ret
      exact ⟨rfl, rfl⟩
  · have hx : next ⟨rest, err⟩ = 0 := if_neg he
    rw [hx]
    obtain ⟨ea, hea⟩ := errV_some c he
    rw [hea] at c4
    clear h2 h3 hao h hb hea
    go_enter Tryd.func36, Tryd.ntmps36
    go_wp2_with fail
    go_ret
    exact ⟨rfl, rfl⟩

/-- What a call does to the reader. -/
def Does (c : Ctx) (o : Nat) (s : St) (v : Value) (x : World) (e : Ending) (y : World) : Prop := e = .returned v ∧ Rd c o s y ∧ Turns (fun k => k = c.R) x y
theorem Rd.takes {c : Ctx} {o : Nat} {t : K} {r : List K} {er : Nat} {x : World} (h : Rd c o ⟨t :: r, er⟩ x) {ao : Option Addr} {cap : Nat} (hc : r.length ≤ cap) (ha : r ≠ [] → ao = some ⟨c.G, (c.L.length - r.length) * 4, none⟩) :
    Rd c o ⟨r, er⟩ (x.setCell ⟨c.R, 0, none⟩ (.slice ao r.length cap)) := by
  obtain ⟨ao', cap', hb, -, -⟩ := h.box
  exact ⟨⟨ao, cap, rdb_rest hb _, hc, ha⟩, (List.suffix_cons t r).trans h.suf, h.env.own (set_turns x 0 _)⟩
theorem Rd.fails {c : Ctx} {o : Nat} {r : List K} {x : World} (h : Rd c o ⟨r, 0⟩ x) (n : Nat) : Rd c o ⟨r, n⟩ (x.setCell ⟨c.R, 4, none⟩ (errV c n)) := by
  obtain ⟨ao, cap, hb, h1, h2⟩ := h.box
  exact ⟨⟨ao, cap, rdb_err hb _, h1, h2⟩, h.suf, h.env.own (set_turns x 4 _)⟩
set_option maxHeartbeats 1000000 in
theorem take_any {c : Ctx} {o : Nat} {s : St} {x : World} (h : Rd c o s x) (k : Int) (hk : k ≠ 0) : Calls Tryd.prog 71 #[.pointer (some ⟨c.R, 0, none⟩), .int .i64 k] x (Does c o (if next s = k then tl s else s) (.bool (decide (next s = k))) x) := by
  have hn := next_any h
  by_cases hx : next s = k
  · obtain ⟨he, t, r, hr, ht⟩ := next_good (s := s) (by rw [hx]; exact hk)
    rw [if_pos hx, decide_eq_true hx]
    rw [hx] at hn
    cases s with
    | mk rest err =>
    simp only at hr he
    subst hr he
    obtain ⟨ao, cap, hb, hcap, hao⟩ := h.box
    obtain ⟨hj, -⟩ := h.head rfl
    have hlen := h.len
    have hl : (t :: r).length = r.length + 1 := rfl
    simp only at hj hcap hlen
    rw [hl] at hj hcap hlen
    obtain rfl := hao (by simp)
    obtain ⟨ao2, hsl, ha2'⟩ := slice1 (g := c.G) (o := (c.L.length - (t :: r).length) * 4) (n := (t :: r).length) (cap := cap) (by rw [hl]; omega) (by rw [hl]; exact hcap)
    have ha2 : r ≠ [] → ao2 = some ⟨c.G, (c.L.length - r.length) * 4, none⟩ := by
      intro hr
      have := List.length_pos_iff.2 hr
      rw [ha2' (by rw [hl]; omega), hl]
      have : (c.L.length - (r.length + 1)) * 4 + 4 = (c.L.length - r.length) * 4 := by omega
      rw [this]
    rw [show (t :: r).length - 1 = r.length from rfl] at hsl
    have H2 := Lib.hid (And.intro (h.takes (ao := ao2) (cap := cap - 1) (by omega) ha2) (set_turns (c := c) x 0 (.slice ao2 r.length (cap - 1))))
    obtain ⟨c0, -, -, c3, c4⟩ := rdb_cells hb
    have f0 := rdb_free hb 0
    clear ha2 ha2' hao hcap hj h hb hl hlen
    simp only at c0
    generalize (t :: r).length = n at *
    show Calls _ _ _ _ (Does c o ⟨r, 0⟩ (.bool true) x)
    have HN := Lib.hid hn
    clear hn hx ht
    go_enter Tryd.func71, Tryd.ntmps71
    go_wp2_with (go_at_call 36; refine HN.out.mono ?_; rintro e y ⟨rfl, rfl⟩)
    go_ret
    exact ⟨rfl, H2.out⟩
  · rw [if_neg hx, decide_eq_false hx]
    have HN := Lib.hid hn
    have H2 := Lib.hid h
    have e1 : ((next s) != k) = true := by simpa using hx
    clear hn hx h
    generalize next s = n at *
    go_enter Tryd.func71, Tryd.ntmps71
    go_wp2_with (go_at_call 36; refine HN.out.mono ?_; rintro e y ⟨rfl, rfl⟩)
    go_ret
    exact ⟨rfl, H2.out, Turns.refl _ _⟩
set_option maxHeartbeats 1000000 in
theorem fail_any {c : Ctx} {o : Nat} {s : St} {x : World} (h : Rd c o s x) {n : Nat} (hn0 : n ≠ 0) : Calls Tryd.prog 37 #[.pointer (some ⟨c.R, 0, none⟩), errV c n] x (Does c o (fail s n) (.tuple #[]) x) := by
  obtain ⟨ao, cap, hb, -, -⟩ := h.box
  obtain ⟨-, -, -, -, c4⟩ := rdb_cells hb
  have f4 := rdb_free hb 4
  by_cases he : s.err = 0
  · rw [fail, if_pos he]
    cases s with
    | mk rest err =>
    simp only at he
    subst he
    have H2 := Lib.hid (And.intro (h.fails n) (set_turns (c := c) x 4 (errV c n)))
    simp only at c4
    rw [errV_zero] at c4
    clear h hb
    obtain ⟨ev, hev⟩ := errV_some c hn0
    rw [hev] at H2
    rw [hev]
    clear hev
    go_enter Tryd.func37, Tryd.ntmps37
    go_wp2_with fail
    go_end0
    exact ⟨rfl, H2.out⟩
  · rw [fail, if_neg he]
    have H2 := Lib.hid h
    obtain ⟨ea, hea⟩ := errV_some c he
    rw [hea] at c4
    clear h hb hea
    obtain ⟨ev, hev⟩ := errV_some c hn0
    rw [hev]
    clear hev
    go_enter Tryd.func37, Tryd.ntmps37
    go_wp2_with fail
    go_end0
    exact ⟨rfl, H2.out, Turns.refl _ _⟩
theorem Rd.g0 {c : Ctx} {o : Nat} {s : St} {x : World} (h : Rd c o s x) : x.cell? ⟨0, 0, none⟩ = some (errV c 11) := h.env.g0
theorem Rd.g1 {c : Ctx} {o : Nat} {s : St} {x : World} (h : Rd c o s x) : x.cell? ⟨1, 0, none⟩ = some (errV c 12) := h.env.g1
set_option maxHeartbeats 1000000 in
theorem need_any {c : Ctx} {o : Nat} {s : St} {x : World} (h : Rd c o s x) (k : Int) (hk : k ≠ 0) : Calls Tryd.prog 73 #[.pointer (some ⟨c.R, 0, none⟩), .int .i64 k] x (Does c o (need s k) (.tuple #[]) x) := by
  have HT := Lib.hid (take_any h k hk)
  unfold need
  by_cases hx : next s = k
  · rw [if_pos hx, decide_eq_true hx] at HT
    rw [if_pos hx]
    clear hx h
    go_enter Tryd.func73, Tryd.ntmps73
    go_wp2_with (go_at_call 71; refine HT.out.mono ?_; rintro e y ⟨rfl, h1, h2⟩)
    go_end0
    exact ⟨rfl, h1, h2⟩
  · rw [if_neg hx, decide_eq_false hx] at HT
    rw [if_neg hx]
    clear hx h
    go_enter Tryd.func73, Tryd.ntmps73
    go_wp2_with (go_at_call 71; refine HT.out.mono ?_; rintro e y ⟨rfl, h1, h2⟩; have g0 := h1.g0)
    refine (fail_any h1 (n := 11) (by decide)).mono ?_
    rintro e z ⟨rfl, h3, h4⟩
    go_wp2_with fail
    go_end0
    exact ⟨rfl, h3, h2.trans h4 fun _ _ h => h⟩
theorem head_text {c : Ctx} {o : Nat} {t : K} {r : List K} {er : Nat} {x : World} (h : Rd c o ⟨t :: r, er⟩ x) : c.G < x.heap.size ∧ x.cell? ⟨c.G, (c.L.length - (t :: r).length) * 4 + 1, none⟩ = some (.string (txt t.2)) := by
  obtain ⟨hj, ht⟩ := h.head rfl
  obtain ⟨hG, -, k1, -⟩ := h.env.toks _ hj
  have := congrArg Prod.snd ht
  simp only at this
  rw [this] at k1
  exact ⟨hG, k1⟩
set_option maxHeartbeats 1000000 in
theorem word_any {c : Ctx} {o : Nat} {s : St} {x : World} (h : Rd c o s x) : Calls Tryd.prog 72 #[.pointer (some ⟨c.R, 0, none⟩)] x (Does c o (word s).2 (.string (word s).1) x) := by
  have HT := Lib.hid (take_any h 1 (by decide))
  unfold word
  by_cases hx : next s = 1
  · obtain ⟨he, t, r, hr, ht⟩ := next_good (s := s) (by rw [hx]; decide)
    rw [if_pos hx, decide_eq_true hx] at HT
    rw [if_pos hx]
    cases s with
    | mk rest err =>
    simp only at hr he
    subst hr he
    obtain ⟨ao, cap, hb, hcap, hao⟩ := h.box
    obtain rfl := hao (by simp)
    obtain ⟨c0, -⟩ := rdb_cells hb
    have hix := index0 (g := c.G) (o := (c.L.length - (t :: r).length) * 4) (n := (t :: r).length) (cap := cap) (by simp)
    have HK := Lib.hid (fun y (hy : Turns (fun k => k = c.R) x y) => by
      obtain ⟨hG, k1⟩ := head_text h
      exact (hy.cell (p := ⟨c.G, (c.L.length - (t :: r).length) * 4 + 1, none⟩) hG (fun e => by have := h.env.nG; simp only at e; omega)).trans k1)
    show Calls _ _ _ _ (Does c o _ (.string (txt t.2)) x)
    clear h hb hcap hao hx ht
    simp only at c0
    generalize (t :: r).length = n at *
    go_enter Tryd.func72, Tryd.ntmps72
    go_wp2_with (go_at_call 71; refine HT.out.mono ?_; rintro e y ⟨rfl, h1, h2⟩; have k1 := HK.out y h2)
    go_ret
    exact ⟨rfl, h1, h2⟩
  · rw [if_neg hx, decide_eq_false hx] at HT
    rw [if_neg hx]
    obtain ⟨ao, cap, hb, -, -⟩ := h.box
    obtain ⟨c0, -⟩ := rdb_cells hb
    clear hx h hb
    go_enter Tryd.func72, Tryd.ntmps72
    go_wp2_with (go_at_call 71; refine HT.out.mono ?_; rintro e y ⟨rfl, h1, h2⟩; have g0 := h1.g0)
    refine (fail_any h1 (n := 11) (by decide)).mono ?_
    rintro e z ⟨rfl, h3, h4⟩
    go_wp2_with fail
    go_ret
    exact ⟨rfl, h3, h2.trans h4 fun _ _ h => h⟩
end Gr
end Go.Proofs.YtbphmaoomnocmaaDoor
