/-
  Layer 13's statements: lists of bytes, of records and of acts, rings and pairs as arguments.
  Layer 13's statements: lists of records as arguments.
  Layer 13's statements: rings, and pairs of numbers, as arguments.
  Layer 13's statements: lists of acts: an act out of a list; whether they are few.
-/
import Derived.Test.YtkfmmdiflbnhgaaTgC
import Derived.Test.YtkfmmdiflbnhgaaSgpE
namespace Go.Proofs.Ytkfmmdiflbnhgaa
set_option maxRecDepth 100000
open Go.ChangeShapes Go.WideShapes Go.ChangeAt Go.RowKit Go.Joins Go.Deep
open Ta (Row IsBytes IsFlags IsAct IsActs bytes_cells flags_cells bulk_len bulk_mem add_at plain cellsInt cellsBs cellsFs)
namespace Sp
theorem cellsAct : Try.prog.cellsOf 52 = 4 := by kernel_rfl

section
variable {H : Type} {enc : TypeId × Value → H} {W : World} {base : Nat} {held : Bool}
theorem bytes_arg {v : Value} {d : DataW H} {p : List MemPlace} (hv : Value.okWide Try.prog W .any base 22 v) (h : DataW.Trod enc Try.prog W 0 (fun _ => true) true 22 v d p) : ∃ l, IsBytes W v l ∧ l.length ≤ Rows.uptoBulk d := by
  obtain ⟨a1, len, cap, rfl⟩ := okWide_slice Try.underlying22 hv
  obtain ⟨fuel, hf⟩ := h
  simp only [Value.cells] at hf
  obtain ⟨v, l, e, h1, h2⟩ := bytes_cells hf
  obtain rfl : _ = v := by simpa using e
  exact ⟨l, h1, h2⟩
theorem act_cells {n : Nat} {cs : List Value} {y : DataW H × List MemPlace} (hl : cs.length = 4) (h : DataW.trod enc Try.prog W base (fun _ => true) held n 52 cs = some y) : ∃ a, IsAct W cs a ∧ a.b.length ≤ Rows.uptoBulk y.1 ∧ a.c.length ≤ Rows.uptoBulk y.1 := by
  match cs, hl with
  | [c0, c1, c2, c3], _ =>
    obtain ⟨y0, y1, y2, y3, n, hx, _, h0, h1, h2, h3⟩ := trod_struct4 Try.underlying52 h
    simp only [cellsInt, cellsBs, cellsFs, List.drop_zero, List.drop_succ_cons, List.take_succ_cons, List.take_zero] at h0 h1 h2 h3
    obtain ⟨k, e0, -, w0⟩ := DataW.trod_int Try.underlying3 h0
    obtain ⟨z, e1, -, w1⟩ := DataW.trod_int Try.underlying3 h1
    obtain ⟨vb, b, e2, hb, ub⟩ := bytes_cells h2
    obtain ⟨vc, c, e3, hc, uc⟩ := flags_cells h3
    obtain rfl : c0 = _ := by simpa using e0
    obtain rfl : c1 = _ := by simpa using e1
    obtain rfl : c2 = _ := by simpa using e2
    obtain rfl : c3 = _ := by simpa using e3
    subst hx
    refine ⟨⟨k, z, b, c⟩, ⟨_, _, rfl, hb, hc, w0, w1⟩, ?_, ?_⟩ <;> simp only [Rows.uptoBulk, Rows.uptoBulkAll] <;> omega
theorem acts_arg {v : Value} {d : DataW H} {p : List MemPlace} (hv : Value.okWide Try.prog W .any base 30 v) (h : DataW.Trod enc Try.prog W 0 (fun _ => true) true 30 v d p) :
    ∃ l, IsActs W v l ∧ l.length ≤ Rows.uptoBulk d ∧ ∀ a ∈ l, a.b.length ≤ Rows.uptoBulk d ∧ a.c.length ≤ Rows.uptoBulk d := by
  obtain ⟨a1, len, cap, rfl⟩ := okWide_slice Try.underlying30 hv
  obtain ⟨fuel, hf⟩ := h
  rcases open_slice Try.underlying30 hf with ⟨hcs, -⟩ | ⟨a, len', cap', m, n, D, Pl, hcs, -, hl, hm, hmm, hx, hi⟩
  · simp [Value.cells] at hcs
    obtain ⟨rfl, rfl, rfl⟩ := hcs
    exact ⟨[], ⟨none, 0, rfl, Nat.le_refl _, Nat.zero_le _, fun h => absurd rfl h⟩, Nat.zero_le _, fun a h => by simp at h⟩
  · simp [Value.cells] at hcs
    obtain ⟨rfl, rfl, rfl⟩ := hcs
    simp only [if_true] at hmm
    subst hmm
    rw [cellsAct] at hi
    obtain ⟨f, hff⟩ := choose_lt (α := Ta.Act) (n := len) (p := fun i q => ∃ cs, (IsAct W cs q ∧ cs.length = 4) ∧ (∀ j u, cs[j]? = some u → W.cell? ((a.add (i * 4)).add j) = some u) ∧ q.b.length ≤ Rows.uptoBulk (D i) ∧ q.c.length ≤ Rows.uptoBulk (D i)) (fun i hil => by
      obtain ⟨cs', hc, ht⟩ := hi i (by omega)
      obtain ⟨_, hcl, hat⟩ := World.cells?_some hc
      obtain ⟨q, hq, u⟩ := act_cells hcl ht
      refine ⟨q, cs', ⟨hq, hcl⟩, fun j u hu => ?_, u⟩
      have hj : j < 4 := by have := (List.getElem?_eq_some_iff.1 hu).1; omega
      rw [hat j hj]
      exact hu)
    have hlen : ((List.range len).map f).length = len := by rw [List.length_map, List.length_range]
    obtain ⟨rfl, -⟩ := Prod.mk.inj hx
    have hB := bulk_len ((List.range len).map D)
    have hD : ∀ i, i < len → Rows.uptoBulk (D i) ≤ Rows.uptoBulkAll ((List.range len).map D) := fun i hi => bulk_mem (List.mem_map.2 ⟨i, List.mem_range.2 hi, rfl⟩)
    refine ⟨(List.range len).map f, ⟨some a, m, by rw [hlen], by omega, hm, fun hne => ?_⟩, by rw [hlen]; simp only [Rows.uptoBulk]; simp at hB; omega, fun q hq => ?_⟩
    · have hpos : 0 < len := by
        rcases Nat.eq_zero_or_pos len with h0 | h0
        · subst h0; exact absurd rfl hne
        · exact h0
      obtain ⟨b, o, rfl⟩ : ∃ b o, a = ⟨b, o, none⟩ := by
        obtain ⟨cs, ⟨h1, h2⟩, h3, -⟩ := hff 0 hpos
        have h4 := h3 0 _ (List.getElem?_eq_getElem (by omega))
        rw [Nat.zero_mul] at h4
        obtain ⟨b, o, s⟩ := a
        obtain rfl : s = none := by simpa [Addr.add] using World.cell?_spot h4
        exact ⟨b, o, rfl⟩
      refine ⟨b, o, rfl, fun i hil => ?_⟩
      rw [hlen] at hil
      obtain ⟨cs, ⟨h1, -⟩, h3, -⟩ := hff i hil
      refine ⟨cs, by simpa using h1, fun j u hu => ?_⟩
      have h4 := h3 j u hu
      rw [add_at, add_at] at h4
      exact h4
    · obtain ⟨i, hi', rfl⟩ := List.mem_map.1 hq
      have hi' := List.mem_range.1 hi'
      obtain ⟨cs, -, -, h5, h6⟩ := hff i hi'
      have := hD i hi'
      simp only [Rows.uptoBulk]
      omega
end
end Sp
end Go.Proofs.Ytkfmmdiflbnhgaa

namespace Go.Proofs.Ytkfmmdiflbnhgaa
set_option maxRecDepth 100000
open Go.ChangeShapes Go.WideShapes Go.ChangeAt Go.RowKit Go.Joins Go.Deep
open Ta (Row IsBytes bytes_cells bulk_len bulk_mem add_at)
namespace Sp
theorem cellsBs1 : Try.prog.cellsOf 22 = 1 := by kernel_rfl
section
variable {H : Type} {enc : TypeId × Value → H} {W : World} {base : Nat}
theorem bss_arg {v : Value} {d : DataW H} {p : List MemPlace} (hv : Value.okWide Try.prog W .any base 42 v) (h : DataW.Trod enc Try.prog W 0 (fun _ => true) true 42 v d p) :
    ∃ l, IsRecs W v l ∧ l.length ≤ Rows.uptoBulk d := by
  obtain ⟨a1, len, cap, rfl⟩ := okWide_slice Try.underlying42 hv
  obtain ⟨fuel, hf⟩ := h
  rcases open_slice Try.underlying42 hf with ⟨hcs, -⟩ | ⟨a, len', cap', m, n, D, Pl, hcs, -, hl, hm, hmm, hx, hi⟩
  · simp [Value.cells] at hcs
    obtain ⟨rfl, rfl, rfl⟩ := hcs
    exact ⟨[], ⟨none, 0, rfl, Nat.le_refl _, Nat.zero_le _, fun h => absurd rfl h⟩, Nat.zero_le _⟩
  · simp [Value.cells] at hcs
    obtain ⟨rfl, rfl, rfl⟩ := hcs
    simp only [if_true] at hmm
    subst hmm
    rw [cellsBs1] at hi
    obtain ⟨f, hff⟩ := choose_lt (α := List UInt8) (n := len) (p := fun i q => ∃ u, W.cell? ((a.add i).add 0) = some u ∧ IsBytes W u q) (fun i hil => by
      obtain ⟨cs', hc, ht⟩ := hi i (by omega)
      obtain ⟨_, hcl, hat⟩ := World.cells?_some hc
      obtain ⟨v, l, e, hb, -⟩ := bytes_cells ht
      subst e
      refine ⟨l, v, ?_, hb⟩
      have := hat 0 (by omega)
      rw [Nat.mul_one] at this
      simpa using this)
    have hlen : ((List.range len).map f).length = len := by rw [List.length_map, List.length_range]
    obtain ⟨rfl, -⟩ := Prod.mk.inj hx
    have hB := bulk_len ((List.range len).map D)
    refine ⟨(List.range len).map f, ⟨some a, m, by rw [hlen], by omega, hm, fun hne => ?_⟩, by rw [hlen]; simp only [Rows.uptoBulk]; simp at hB; omega⟩
    have hpos : 0 < len := by
      rcases Nat.eq_zero_or_pos len with h0 | h0
      · subst h0; exact absurd rfl hne
      · exact h0
    obtain ⟨b, o, rfl⟩ : ∃ b o, a = ⟨b, o, none⟩ := by
      obtain ⟨u, h3, -⟩ := hff 0 hpos
      obtain ⟨b, o, s⟩ := a
      obtain rfl : s = none := by simpa [Addr.add] using World.cell?_spot h3
      exact ⟨b, o, rfl⟩
    refine ⟨b, o, rfl, fun i hil => ?_⟩
    rw [hlen] at hil
    obtain ⟨u, h3, h4⟩ := hff i hil
    refine ⟨u, ?_, by simpa using h4⟩
    rw [add_at, add_at] at h3
    exact h3
end
end Sp
end Go.Proofs.Ytkfmmdiflbnhgaa

namespace Go.Proofs.Ytkfmmdiflbnhgaa
set_option maxRecDepth 100000
open Go.ChangeShapes Go.WideShapes Go.ChangeAt Go.RowKit Go.Joins Go.Deep
namespace Sp
theorem cellsRg : Try.prog.cellsOf 28 = 2 := by kernel_rfl
theorem cellsPair : Try.prog.cellsOf 29 = 2 := by kernel_rfl
theorem cellsInt1 : Try.prog.cellsOf 3 = 1 := by kernel_rfl
section
variable {H : Type} {enc : TypeId × Value → H} {W : World} {base : Nat}
theorem ring_arg {v : Value} {d : DataW H} {p : List MemPlace} (hv : Value.okWide Try.prog W .any base 28 v) (h : DataW.Trod enc Try.prog W 0 (fun _ => true) true 28 v d p) :
    ∃ f c : Int, v = .agg #[.int .i64 f, .int .i64 c] ∧ (Lit.int .i64 f).wf = true ∧ (Lit.int .i64 c).wf = true := by
  obtain ⟨v0, v1, y0, y1, n, rfl, -, -, h0, h1⟩ := open_agg2 Try.underlying28 (by kernel_rfl) cellsRg hv h
  obtain ⟨f, e0, -, w0⟩ := DataW.trod_int Try.underlying3 h0
  obtain ⟨c, e1, -, w1⟩ := DataW.trod_int Try.underlying3 h1
  obtain rfl : v0 = _ := by simpa using e0
  obtain rfl : v1 = _ := by simpa using e1
  exact ⟨f, c, rfl, w0, w1⟩
theorem trod_array2 {P : Program} {w : World} {b : Nat} {spare : Nat → Bool} {held : Bool} {t e : TypeId} {fuel : Nat} {c0 c1 : Value} {x : DataW H × List MemPlace} (ht : P.underlying t = some (.array 2 e)) (hce : P.cellsOf e = 1)
    (h : DataW.trod enc P w b spare held fuel t [c0, c1] = some x) :
    ∃ y0 y1 n, x = (.agg [y0.1, y1.1], y0.2 ++ y1.2) ∧ DataW.trod enc P w b spare held n e [c0] = some y0 ∧ DataW.trod enc P w b spare held n e [c1] = some y1 := by
  cases fuel with
  | zero => simp [DataW.trod] at h
  | succ n =>
    unfold DataW.trod at h
    rw [ht] at h
    have r2 : List.range 2 = [0, 1] := rfl
    simp [r2, hce] at h
    obtain ⟨_, h⟩ := h
    cases h0 : DataW.trod enc P w b spare held n e [c0] with
    | none => simp [h0] at h
    | some y0 =>
      cases h1 : DataW.trod enc P w b spare held n e [c1] with
      | none => simp [h0, h1] at h
      | some y1 =>
        simp [h0, h1] at h
        exact ⟨y0, y1, n, h.symm, h0, h1⟩
theorem pair_arg {v : Value} {d : DataW H} {p : List MemPlace} (hv : Value.okWide Try.prog W .any base 29 v) (h : DataW.Trod enc Try.prog W 0 (fun _ => true) true 29 v d p) :
    ∃ f c : Int, v = .agg #[.int .i64 f, .int .i64 c] ∧ (Lit.int .i64 f).wf = true ∧ (Lit.int .i64 c).wf = true := by
  have hu := Try.underlying29
  simp only [Value.okWide, hu] at hv
  obtain ⟨cs, rfl, hsz, -⟩ := hv
  obtain ⟨c0, c1, rfl⟩ := array2 (hsz.trans cellsPair)
  obtain ⟨fuel, hf⟩ := h
  obtain ⟨y0, y1, n, -, h0, h1⟩ := trod_array2 hu cellsInt1 (by simpa [Value.cells] using hf)
  obtain ⟨f, e0, -, w0⟩ := DataW.trod_int Try.underlying3 h0
  obtain ⟨c, e1, -, w1⟩ := DataW.trod_int Try.underlying3 h1
  obtain rfl : c0 = _ := by simpa using e0
  obtain rfl : c1 = _ := by simpa using e1
  exact ⟨f, c, rfl, w0, w1⟩
end
end Sp
end Go.Proofs.Ytkfmmdiflbnhgaa

namespace Go.Proofs.Ytkfmmdiflbnhgaa
set_option maxRecDepth 100000
open Go.RowKit
open Knot (Turns NewRow)
open Ta (IsBytes IsFlags IsAct IsActs)
namespace Sp
abbrev tAc : TypeId := 52
section
variable {w x : World}
theorem act_at {v : Value} {l : List Ta.Act} (h : IsActs w v l) (hbl : Below w.heap.size w x) {j : Nat} (hj : j < l.length) : ∃ g q, (∀ W, (Instr.indexAt 30 v (.int .i64 (j : Int))).run Try.prog W = .ok (.pointer (some ⟨g, q, none⟩)) W) ∧
    ∃ ob oc cb cc, x.cell? ⟨g, q, none⟩ = some (.int .i64 l[j].kind) ∧ x.cell? ⟨g, q + 1, none⟩ = some (.int .i64 l[j].at_) ∧ x.cell? ⟨g, q + 2, none⟩ = some (.slice ob l[j].b.length cb) ∧ x.cell? ⟨g, q + 3, none⟩ = some (.slice oc l[j].c.length cc) ∧
      IsBytes w (.slice ob l[j].b.length cb) l[j].b ∧ IsFlags w (.slice oc l[j].c.length cc) l[j].c := by
  obtain ⟨ao, cap, rfl, h1, h2, h3⟩ := h
  obtain ⟨g, o, rfl, hc⟩ := h3 (fun e => by rw [e] at hj; simp at hj)
  obtain ⟨cs, ⟨vb, vc, rfl, hb, hf, -⟩, hx⟩ := hc j hj
  refine ⟨g, o + j * 4, fun W => ?_, ?_⟩
  · have hz : ∀ w, (sizeOf (Try.prog.elem 30)).run Try.prog w = .ok 4 w := fun w => by kernel_rfl
    have : l.length ≤ 9223372036854775807 := Nat.le_trans h1 (Nat.le_trans h2 (by decide))
    rw [run_indexAt_slice W _ _ _ _ _ _ Try.underlying30, if_pos ⟨by omega, by omega⟩, hz]
    have e : ((j : Int)).toNat = j := by omega
    simp only [Result.andThen_ok, e, Addr.add_lit]
  · obtain ⟨ob, cb, rfl, r1⟩ := hb
    obtain ⟨oc, cc, rfl, r2⟩ := hf
    have hx' : ∀ j' u, [Value.int .i64 l[j].kind, .int .i64 l[j].at_, .slice ob l[j].b.length cb, .slice oc l[j].c.length cc][j']? = some u → x.cell? ⟨g, o + j * 4 + j', none⟩ = some u := fun j' u hu => (hbl.cell (World.block_lt_of_cell? w _ (hx j' u hu))).trans (hx j' u hu)
    have x0 := hx' 0 _ rfl
    rw [Nat.add_zero] at x0
    exact ⟨ob, oc, cb, cc, x0, hx' 1 _ rfl, hx' 2 _ rfl, hx' 3 _ rfl, ⟨ob, cb, rfl, r1⟩, ⟨oc, cc, rfl, r2⟩⟩
theorem acts_len {v : Value} {l : List Ta.Act} (h : IsActs w v l) : ∃ ao cap, v = .slice ao l.length cap ∧ l.length ≤ 9223372036854775807 := by
  obtain ⟨ao, cap, rfl, h1, h2, -⟩ := h
  exact ⟨ao, cap, rfl, Nat.le_trans h1 (Nat.le_trans h2 (by decide))⟩
/-- Few acts, none of them long. -/
def Few (l : List Ta.Act) : Prop := l.length ≤ 40 ∧ ∀ a ∈ l, a.b.length ≤ 600 ∧ a.c.length ≤ 200
instance (l : List Ta.Act) : Decidable (Few l) := by unfold Few; infer_instance
set_option maxHeartbeats 8000000 in
set_option maxRecDepth 100000 in
theorem few_any (v : Value) (l : List Ta.Act) (h : IsActs w v l) : Calls Try.prog 19 #[v] w fun e x => e = .returned (.bool (decide (Few l))) ∧ Below w.heap.size w x := by
  have H := Lib.hid h
  obtain ⟨ao, cap, rfl, hlen⟩ := acts_len h
  clear h
  go_enter Try.func19, Try.ntmps19
  go_wp2_with fail
  go_loopw [7] (fun i x => ∃ j : Nat, j ≤ l.length ∧ i = .int .i64 (j : Int) ∧ Hid (Below w.heap.size w x ∧ ∀ a ∈ l.take j, a.b.length ≤ 600 ∧ a.c.length ≤ 200)) (fun i _ => l.length - (intOf i).toNat)
  case atStart => exact ⟨0, by omega, rfl, Below.refl _ _, by simp⟩
  case round =>
    obtain ⟨j, hj, rfl, HX⟩ := hrel
    by_cases hlt : j < l.length
    · obtain ⟨g, q, hix, ob, oc, cb, cc, a0, a1, a2, a3, -, -⟩ := act_at H.out HX.out.1 hlt
      have HM := Lib.hid (And.intro (List.getElem_mem hlt) (List.take_succ_eq_append_getElem hlt))
      generalize l[j] = ac at *
      obtain ⟨kd, at_, bb, fc⟩ := ac
      simp only at a0 a1 a2 a3
      have hal : Below wr.heap.size wr (wr.alloc (.cells #[.int .i64 kd, .int .i64 at_, .slice ob bb.length cb, .slice oc fc.length cc] tAc)) := (Below.refl _ _).alloc (Nat.le_refl _) _
      have HB := Lib.hid (HX.out.1.trans (hal.mono HX.out.1.size))
      clear hal
      by_cases hb : 600 < bb.length
      · have e1 : (600 : Int) < (bb.length : Int) := by omega
        have HF := Lib.hid (show decide (Few l) = false from decide_eq_false fun h => by have := (h.2 _ HM.out.1).1; simp only at this; omega)
        clear hb
        go_wp2_with fail
        go_ret
        exact ⟨by rw [HF.out]; rfl, HB.out⟩
      · have e1 : ¬ (600 : Int) < (bb.length : Int) := by omega
        by_cases hf : 200 < fc.length
        · have e2 : (200 : Int) < (fc.length : Int) := by omega
          have HF := Lib.hid (show decide (Few l) = false from decide_eq_false fun h => by have := (h.2 _ HM.out.1).2; simp only at this; omega)
          clear hb hf
          go_wp2_with fail
          go_ret
          exact ⟨by rw [HF.out]; rfl, HB.out⟩
        · have e2 : ¬ (200 : Int) < (fc.length : Int) := by omega
          have HL := Lib.hid (And.intro hb hf)
          clear hb hf
          go_wp2_with fail
          go_roundw
          case rel =>
            refine ⟨j + 1, by omega, by go_num, HB.out, fun a ha => ?_⟩
            rw [HM.out.2] at ha
            rcases List.mem_append.1 ha with ha | ha
            · exact HX.out.2 a ha
            · rw [List.mem_singleton] at ha
              subst ha
              have := HL.out
              exact ⟨by show bb.length ≤ 600; omega, by show fc.length ≤ 200; omega⟩
          case measure => simp [intOf]; omega
    · have hjl : j = l.length := by omega
      have HA := Lib.hid (show ∀ a ∈ l, a.b.length ≤ 600 ∧ a.c.length ≤ 200 from by have h := HX.out.2; rwa [hjl, List.take_length] at h)
      have hnl : ¬ (j : Int) < (l.length : Int) := by omega
      clear hlt hjl
      by_cases h40 : l.length ≤ 40
      · have e40 : decide (l.length ≤ 40) = true := decide_eq_true h40
        have e41 : (l.length : Int) ≤ 40 := by omega
        have HF := Lib.hid (show decide (Few l) = true from decide_eq_true ⟨h40, HA.out⟩)
        clear h40
        go_wp2_with fail
        go_ret
        exact ⟨by rw [HF.out]; first | rfl | simp [e41], HX.out.1⟩
      · have e41 : ¬ (l.length : Int) ≤ 40 := by omega
        have HF := Lib.hid (show decide (Few l) = false from decide_eq_false fun h => h40 h.1)
        clear h40
        go_wp2_with fail
        go_ret
        exact ⟨by rw [HF.out]; first | rfl | (simp; omega), HX.out.1⟩
end
end Sp
end Go.Proofs.Ytkfmmdiflbnhgaa
