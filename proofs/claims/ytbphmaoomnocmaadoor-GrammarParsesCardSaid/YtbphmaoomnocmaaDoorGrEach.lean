/-
  Layer 7 (grammar): each and list, at nodes, allowances, relations, types. Written by gen/mk_gr.py.
-/
import Derived.Test.YtbphmaoomnocmaaDoorGrPart
namespace Go.Proofs.YtbphmaoomnocmaaDoor
open Go.RowKit
namespace Gr
open Knot (Turns NewRow)
open Tr (Nd none0 node4 own_slice walk_rows)
open Sg (Tok kt)

/-- What the loop of each keeps. -/
structure Ea {α : Type} (E : Elt α) (T : TypeId) (c : Ctx) (o : Nat) (p : St → α × St) (k : Int) (r : List α × St) (B : Nat) (w : World) (v : Value) (l : List α) (s : St) (x : World) : Prop where
  row : RowS E x B T v l
  rd : Rd c o s x
  turns : Turns (fun k => k = c.R) w x
  low : B ≤ w.heap.size ∧ c.R < B
  more : (l ++ (eachs p k s).1, (eachs p k s).2) = r
  len : l.length + s.rest.length ≤ 10000

set_option maxHeartbeats 4000000 in
set_option maxRecDepth 100000 in
theorem eachN_any {c : Ctx} {o : Nat} {f : FuncId} {p : St → Nd × St} (hp : Part nodeE c o f p) (hf : Fine p) {k : Int} (hk : k ≠ 0) {s : St} {x : World} (h : Rd c o s x) :
    Calls Tryd.prog 67 #[.pointer (some ⟨c.R, 0, none⟩), .int .i64 k, .func (.func f) #[] #[]] x (Outs nodeE 25 c o (eachs p k s) x) := by
  have HE := hp.enter
  have HP := Lib.hid hp
  have HF := Lib.hid hf
  have H0 : Ea nodeE 25 c o p k (eachs p k s) x.heap.size x (.slice none 0 0) [] s x :=
    ⟨RowS.nil _ _ _ _, h, Turns.refl _ _, ⟨Nat.le_refl _, h.lt⟩, rfl, by have := h.len; have := h.env.len; simp; omega⟩
  have H0 := Lib.hid H0
  clear hp hf h
  go_enter Tryd.func67, Tryd.ntmps67
  go_wp2_with fail
  go_loopg [7] s.rest.length (fun q lv wr => ∃ (l : List Nd) (si : St), q = si.rest.length ∧ Hid (Ea nodeE 25 c o p k (eachs p k s) x.heap.size x lv l si wr))
  case atStart => exact ⟨[], s, rfl, H0⟩
  case round =>
    clear H0
    obtain ⟨l, si, rfl, HA⟩ := hrel
    obtain ⟨lo, lc, rfl⟩ := HA.out.row.slice
    have ht := take_any HA.out.rd k hk
    by_cases hn : next si = k
    · rw [if_pos hn, decide_eq_true hn] at ht
      have HT := Lib.hid ht
      have HN := Lib.hid hn
      clear ht hn
      go_wp2_with (go_at_call 71; refine HT.out.mono ?_; rintro e y ⟨rfl, h1, h2⟩)
      refine (HP.out.run _ _ h1).mono ?_
      rintro e z ⟨v, rfl, hv, h3, h4⟩
      have hz : x.heap.size ≤ y.heap.size := Nat.le_trans HA.out.turns.size h2.size
      have hR : c.R < x.heap.size := HA.out.low.2
      have hlt : ∀ g, (Value.slice lo l.length lc).ownBlock = some g → g < y.heap.size := fun g hg => Nat.lt_of_lt_of_le (HA.out.row.own_lt hg).2 h2.size
      have hrow : RowS nodeE z x.heap.size 25 (Value.slice lo l.length lc) l := (HA.out.row.turn h2 fun g hg _ e => by subst e; omega).turn h4 fun g hg _ e => by subst e; omega
      have HV := Lib.hid hv
      obtain ⟨ao, cap, us, rfl, -⟩ := NodeS.open hv
      have al : Below z.heap.size z (z.alloc (.cells ([.int .i64 (p (tl si)).1.kind, .string (p (tl si)).1.ta, .string (p (tl si)).1.tb, .slice ao (p (tl si)).1.kids.length cap]).toArray 25)) := (Below.refl _ _).alloc (Nat.le_refl _) _
      have HV2 := Lib.hid (Elt.below (E := nodeE) HV.out al)
      obtain ⟨vs, o1, o2, o3⟩ := hrow.below al
      have H3 := Lib.hid (h3.below al)
      have H4 := Lib.hid (((HA.out.turns.trans h2 fun _ _ h => h).trans h4 fun _ _ h => h).then_below al)
      obtain ⟨ti, tz, tb, TE, hT⟩ := elN
      have HO := Lib.hid (And.intro o1 (And.intro o2 (And.intro o3 (And.intro TE hT))))
      have HL := Lib.hid (And.intro hlt (And.intro hz (And.intro h4.size al.size)))
      have hlen : l.length ≤ 10000 := by have := HA.out.len; omega
      have HM := Lib.hid HA.out.more
      have HLe := Lib.hid HA.out.len
      have HLo := Lib.hid HA.out.low
      clear hv h3 h4 hrow o1 o2 o3 TE hT hlt hz h1 h2 HA HV al HT HE
      go_wp2_with (at_builtin; refine walk_rows HO.out.2.2.2.1 rfl _ _ rfl rfl rfl HO.out.1 (by have := HL.out.2; omega) (m := 1) rfl (new_cells _ _ ([.int .i64 (p (tl si)).1.kind, .string (p (tl si)).1.ta, .string (p (tl si)).1.tb, .slice ao (p (tl si)).1.kids.length cap]) (by simp)) (by intro u' hu'; simp at hu'; rcases hu' with rfl | rfl | rfl | rfl <;> rfl) (by omega) (Nat.le_trans (Nat.mul_le_mul_left _ HO.out.2.2.2.2) (by omega)) ?_)
      intro v2 zz r2 g2 n2
      have hrow : RowS nodeE zz x.heap.size 25 v2 (l ++ [(p (tl si)).1]) :=
        RowS.grow (C := y.heap.size) (us := [node4 (p (tl si)).1.kind (p (tl si)).1.ta (p (tl si)).1.tb (.slice ao (p (tl si)).1.kids.length cap)]) HO.out.2.1 HO.out.2.2.1 rfl (fun i a u hi hu => by
          cases i with
          | zero =>
            obtain rfl : (p (tl si)).1 = a := by simpa using hi
            obtain rfl := Option.some.inj hu
            exact HV2.out
          | succ i => simp at hi) (fun g hg _ => ⟨by have := HL.out.2.1; omega, fun e => by have := HL.out.1 g e; omega⟩) (by rw [cellsV_one]; exact r2) g2 n2
      have tg : Turns (fun k => (Value.slice lo l.length lc).ownBlock = some k) _ zz := Turns.of_grown g2 fun k hk => hk
      have hown : ∀ k, (Value.slice lo l.length lc).ownBlock = some k → x.heap.size ≤ k := fun k hk => (HO.out.1.lt k hk).1
      have hEa : Ea nodeE 25 c o p k (eachs p k s) x.heap.size x v2 (l ++ [(p (tl si)).1]) (p (tl si)).2 zz := by
        have hR := HLo.out.2
        refine ⟨hrow, H3.out.turn tg fun g hg e => by have := hown g e; omega, ?_, HLo.out, ?_, ?_⟩
        · refine H4.out.trans (G := fun k => (Value.slice lo l.length lc).ownBlock = some k) tg fun g hg e => by have := hown g e; omega
        · rw [← HM.out, eachs_on HF.out hk HN.out]
          simp
        · have h1 := HLe.out
          have h2 := tl_len (s := si) (by rw [HN.out]; exact hk)
          have h3 := (HF.out.suf (tl si)).length_le
          simp only [List.length_append, List.length_singleton]
          omega
      have HEa := Lib.hid hEa
      have hdec : (p (tl si)).2.rest.length < si.rest.length := by
        have h2 := tl_len (s := si) (by rw [HN.out]; exact hk)
        have h3 := (HF.out.suf (tl si)).length_le
        omega
      clear hrow tg hown hEa r2 g2 n2 HO HL HV2 H3 H4 HM HLe hlen
      go_wp2_with fail
      go_roundg ((p (tl si)).2.rest.length)
      case rel => exact ⟨_, _, rfl, HEa⟩
      case measure => exact hdec
    · rw [if_neg hn, decide_eq_false hn] at ht
      have HT := Lib.hid ht
      have HX := Lib.hid (show eachs p k s = (l, si) by rw [← HA.out.more, eachs_off hn]; simp)
      have HB := Lib.hid (And.intro HA.out.row (And.intro HA.out.turns HA.out.low))
      clear ht hn HA HP HF HE
      go_wp2_with (go_at_call 71; refine HT.out.mono ?_; rintro e y ⟨rfl, h1, h2⟩)
      go_ret
      rw [HX.out]
      exact ⟨_, rfl, HB.out.1.turn h2 fun g hg _ e => by have := HB.out.2.2.2; omega, h1, HB.out.2.1.trans h2 fun _ _ h => h⟩

set_option maxHeartbeats 4000000 in
set_option maxRecDepth 100000 in
theorem eachA_any {c : Ctx} {o : Nat} {f : FuncId} {p : St → Al × St} (hp : Part allowE c o f p) (hf : Fine p) {k : Int} (hk : k ≠ 0) {s : St} {x : World} (h : Rd c o s x) :
    Calls Tryd.prog 100 #[.pointer (some ⟨c.R, 0, none⟩), .int .i64 k, .func (.func f) #[] #[]] x (Outs allowE 51 c o (eachs p k s) x) := by
  have HE := hp.enter
  have HP := Lib.hid hp
  have HF := Lib.hid hf
  have H0 : Ea allowE 51 c o p k (eachs p k s) x.heap.size x (.slice none 0 0) [] s x :=
    ⟨RowS.nil _ _ _ _, h, Turns.refl _ _, ⟨Nat.le_refl _, h.lt⟩, rfl, by have := h.len; have := h.env.len; simp; omega⟩
  have H0 := Lib.hid H0
  clear hp hf h
  go_enter Tryd.func100, Tryd.ntmps100
  go_wp2_with fail
  go_loopg [7] s.rest.length (fun q lv wr => ∃ (l : List Al) (si : St), q = si.rest.length ∧ Hid (Ea allowE 51 c o p k (eachs p k s) x.heap.size x lv l si wr))
  case atStart => exact ⟨[], s, rfl, H0⟩
  case round =>
    clear H0
    obtain ⟨l, si, rfl, HA⟩ := hrel
    obtain ⟨lo, lc, rfl⟩ := HA.out.row.slice
    have ht := take_any HA.out.rd k hk
    by_cases hn : next si = k
    · rw [if_pos hn, decide_eq_true hn] at ht
      have HT := Lib.hid ht
      have HN := Lib.hid hn
      clear ht hn
      go_wp2_with (go_at_call 71; refine HT.out.mono ?_; rintro e y ⟨rfl, h1, h2⟩)
      refine (HP.out.run _ _ h1).mono ?_
      rintro e z ⟨v, rfl, hv, h3, h4⟩
      have hz : x.heap.size ≤ y.heap.size := Nat.le_trans HA.out.turns.size h2.size
      have hR : c.R < x.heap.size := HA.out.low.2
      have hlt : ∀ g, (Value.slice lo l.length lc).ownBlock = some g → g < y.heap.size := fun g hg => Nat.lt_of_lt_of_le (HA.out.row.own_lt hg).2 h2.size
      have hrow : RowS allowE z x.heap.size 51 (Value.slice lo l.length lc) l := (HA.out.row.turn h2 fun g hg _ e => by subst e; omega).turn h4 fun g hg _ e => by subst e; omega
      have HV := Lib.hid hv
      obtain rfl : v = alV _ := HV.out
      have al : Below z.heap.size z (z.alloc (.cells ([.string (p (tl si)).1.ty, .string (p (tl si)).1.rel, .bool (p (tl si)).1.wild]).toArray 51)) := (Below.refl _ _).alloc (Nat.le_refl _) _
      have HV2 := Lib.hid (Elt.below (E := allowE) HV.out al)
      obtain ⟨vs, o1, o2, o3⟩ := hrow.below al
      have H3 := Lib.hid (h3.below al)
      have H4 := Lib.hid (((HA.out.turns.trans h2 fun _ _ h => h).trans h4 fun _ _ h => h).then_below al)
      obtain ⟨ti, tz, tb, TE, hT⟩ := elA
      have HO := Lib.hid (And.intro o1 (And.intro o2 (And.intro o3 (And.intro TE hT))))
      have HL := Lib.hid (And.intro hlt (And.intro hz (And.intro h4.size al.size)))
      have hlen : l.length ≤ 10000 := by have := HA.out.len; omega
      have HM := Lib.hid HA.out.more
      have HLe := Lib.hid HA.out.len
      have HLo := Lib.hid HA.out.low
      clear hv h3 h4 hrow o1 o2 o3 TE hT hlt hz h1 h2 HA HV al HT HE
      go_wp2_with (at_builtin; refine walk_rows HO.out.2.2.2.1 rfl _ _ rfl rfl rfl HO.out.1 (by have := HL.out.2; omega) (m := 1) rfl (new_cells _ _ ([.string (p (tl si)).1.ty, .string (p (tl si)).1.rel, .bool (p (tl si)).1.wild]) (by simp)) (by intro u' hu'; simp at hu'; rcases hu' with rfl | rfl | rfl <;> rfl) (by omega) (Nat.le_trans (Nat.mul_le_mul_left _ HO.out.2.2.2.2) (by omega)) ?_)
      intro v2 zz r2 g2 n2
      have hrow : RowS allowE zz x.heap.size 51 v2 (l ++ [(p (tl si)).1]) :=
        RowS.grow (C := y.heap.size) (us := [alV (p (tl si)).1]) HO.out.2.1 HO.out.2.2.1 rfl (fun i a u hi hu => by
          cases i with
          | zero =>
            obtain rfl : (p (tl si)).1 = a := by simpa using hi
            obtain rfl := Option.some.inj hu
            exact HV2.out
          | succ i => simp at hi) (fun g hg _ => ⟨by have := HL.out.2.1; omega, fun e => by have := HL.out.1 g e; omega⟩) (by rw [cellsV_one]; exact r2) g2 n2
      have tg : Turns (fun k => (Value.slice lo l.length lc).ownBlock = some k) _ zz := Turns.of_grown g2 fun k hk => hk
      have hown : ∀ k, (Value.slice lo l.length lc).ownBlock = some k → x.heap.size ≤ k := fun k hk => (HO.out.1.lt k hk).1
      have hEa : Ea allowE 51 c o p k (eachs p k s) x.heap.size x v2 (l ++ [(p (tl si)).1]) (p (tl si)).2 zz := by
        have hR := HLo.out.2
        refine ⟨hrow, H3.out.turn tg fun g hg e => by have := hown g e; omega, ?_, HLo.out, ?_, ?_⟩
        · refine H4.out.trans (G := fun k => (Value.slice lo l.length lc).ownBlock = some k) tg fun g hg e => by have := hown g e; omega
        · rw [← HM.out, eachs_on HF.out hk HN.out]
          simp
        · have h1 := HLe.out
          have h2 := tl_len (s := si) (by rw [HN.out]; exact hk)
          have h3 := (HF.out.suf (tl si)).length_le
          simp only [List.length_append, List.length_singleton]
          omega
      have HEa := Lib.hid hEa
      have hdec : (p (tl si)).2.rest.length < si.rest.length := by
        have h2 := tl_len (s := si) (by rw [HN.out]; exact hk)
        have h3 := (HF.out.suf (tl si)).length_le
        omega
      clear hrow tg hown hEa r2 g2 n2 HO HL HV2 H3 H4 HM HLe hlen
      go_wp2_with fail
      go_roundg ((p (tl si)).2.rest.length)
      case rel => exact ⟨_, _, rfl, HEa⟩
      case measure => exact hdec
    · rw [if_neg hn, decide_eq_false hn] at ht
      have HT := Lib.hid ht
      have HX := Lib.hid (show eachs p k s = (l, si) by rw [← HA.out.more, eachs_off hn]; simp)
      have HB := Lib.hid (And.intro HA.out.row (And.intro HA.out.turns HA.out.low))
      clear ht hn HA HP HF HE
      go_wp2_with (go_at_call 71; refine HT.out.mono ?_; rintro e y ⟨rfl, h1, h2⟩)
      go_ret
      rw [HX.out]
      exact ⟨_, rfl, HB.out.1.turn h2 fun g hg _ e => by have := HB.out.2.2.2; omega, h1, HB.out.2.1.trans h2 fun _ _ h => h⟩

set_option maxHeartbeats 4000000 in
set_option maxRecDepth 100000 in
theorem eachR_any {c : Ctx} {o : Nat} {f : FuncId} {p : St → Rl × St} (hp : Part relE c o f p) (hf : Fine p) {k : Int} (hk : k ≠ 0) {s : St} {x : World} (h : Rd c o s x) :
    Calls Tryd.prog 74 #[.pointer (some ⟨c.R, 0, none⟩), .int .i64 k, .func (.func f) #[] #[]] x (Outs relE 49 c o (eachs p k s) x) := by
  have HE := hp.enter
  have HP := Lib.hid hp
  have HF := Lib.hid hf
  have H0 : Ea relE 49 c o p k (eachs p k s) x.heap.size x (.slice none 0 0) [] s x :=
    ⟨RowS.nil _ _ _ _, h, Turns.refl _ _, ⟨Nat.le_refl _, h.lt⟩, rfl, by have := h.len; have := h.env.len; simp; omega⟩
  have H0 := Lib.hid H0
  clear hp hf h
  go_enter Tryd.func74, Tryd.ntmps74
  go_wp2_with fail
  go_loopg [7] s.rest.length (fun q lv wr => ∃ (l : List Rl) (si : St), q = si.rest.length ∧ Hid (Ea relE 49 c o p k (eachs p k s) x.heap.size x lv l si wr))
  case atStart => exact ⟨[], s, rfl, H0⟩
  case round =>
    clear H0
    obtain ⟨l, si, rfl, HA⟩ := hrel
    obtain ⟨lo, lc, rfl⟩ := HA.out.row.slice
    have ht := take_any HA.out.rd k hk
    by_cases hn : next si = k
    · rw [if_pos hn, decide_eq_true hn] at ht
      have HT := Lib.hid ht
      have HN := Lib.hid hn
      clear ht hn
      go_wp2_with (go_at_call 71; refine HT.out.mono ?_; rintro e y ⟨rfl, h1, h2⟩)
      refine (HP.out.run _ _ h1).mono ?_
      rintro e z ⟨v, rfl, hv, h3, h4⟩
      have hz : x.heap.size ≤ y.heap.size := Nat.le_trans HA.out.turns.size h2.size
      have hR : c.R < x.heap.size := HA.out.low.2
      have hlt : ∀ g, (Value.slice lo l.length lc).ownBlock = some g → g < y.heap.size := fun g hg => Nat.lt_of_lt_of_le (HA.out.row.own_lt hg).2 h2.size
      have hrow : RowS relE z x.heap.size 49 (Value.slice lo l.length lc) l := (HA.out.row.turn h2 fun g hg _ e => by subst e; omega).turn h4 fun g hg _ e => by subst e; omega
      have HV := Lib.hid hv
      obtain ⟨ao, cap, no, nc, B, rfl, -⟩ := (show RelS _ _ _ _ from HV.out)
      have al : Below z.heap.size z (z.alloc (.cells ([.string (p (tl si)).1.name, .slice ao (p (tl si)).1.allow.length cap, .int .i64 (p (tl si)).1.expr.kind, .string (p (tl si)).1.expr.ta, .string (p (tl si)).1.expr.tb, .slice no (p (tl si)).1.expr.kids.length nc]).toArray 49)) := (Below.refl _ _).alloc (Nat.le_refl _) _
      have HV2 := Lib.hid (Elt.below (E := relE) HV.out al)
      obtain ⟨vs, o1, o2, o3⟩ := hrow.below al
      have H3 := Lib.hid (h3.below al)
      have H4 := Lib.hid (((HA.out.turns.trans h2 fun _ _ h => h).trans h4 fun _ _ h => h).then_below al)
      obtain ⟨ti, tz, tb, TE, hT⟩ := elR
      have HO := Lib.hid (And.intro o1 (And.intro o2 (And.intro o3 (And.intro TE hT))))
      have HL := Lib.hid (And.intro hlt (And.intro hz (And.intro h4.size al.size)))
      have hlen : l.length ≤ 10000 := by have := HA.out.len; omega
      have HM := Lib.hid HA.out.more
      have HLe := Lib.hid HA.out.len
      have HLo := Lib.hid HA.out.low
      clear hv h3 h4 hrow o1 o2 o3 TE hT hlt hz h1 h2 HA HV al HT HE
      go_wp2_with (at_builtin; refine walk_rows HO.out.2.2.2.1 rfl _ _ rfl rfl rfl HO.out.1 (by have := HL.out.2; omega) (m := 1) rfl (new_cells _ _ ([.string (p (tl si)).1.name, .slice ao (p (tl si)).1.allow.length cap, .int .i64 (p (tl si)).1.expr.kind, .string (p (tl si)).1.expr.ta, .string (p (tl si)).1.expr.tb, .slice no (p (tl si)).1.expr.kids.length nc]) (by simp)) (by intro u' hu'; simp at hu'; rcases hu' with rfl | rfl | rfl | rfl | rfl | rfl <;> rfl) (by omega) (Nat.le_trans (Nat.mul_le_mul_left _ HO.out.2.2.2.2) (by omega)) ?_)
      intro v2 zz r2 g2 n2
      have hrow : RowS relE zz x.heap.size 49 v2 (l ++ [(p (tl si)).1]) :=
        RowS.grow (C := y.heap.size) (us := [relV (p (tl si)).1 (.slice ao (p (tl si)).1.allow.length cap) (.slice no (p (tl si)).1.expr.kids.length nc)]) HO.out.2.1 HO.out.2.2.1 rfl (fun i a u hi hu => by
          cases i with
          | zero =>
            obtain rfl : (p (tl si)).1 = a := by simpa using hi
            obtain rfl := Option.some.inj hu
            exact HV2.out
          | succ i => simp at hi) (fun g hg _ => ⟨by have := HL.out.2.1; omega, fun e => by have := HL.out.1 g e; omega⟩) (by rw [cellsV_one]; exact r2) g2 n2
      have tg : Turns (fun k => (Value.slice lo l.length lc).ownBlock = some k) _ zz := Turns.of_grown g2 fun k hk => hk
      have hown : ∀ k, (Value.slice lo l.length lc).ownBlock = some k → x.heap.size ≤ k := fun k hk => (HO.out.1.lt k hk).1
      have hEa : Ea relE 49 c o p k (eachs p k s) x.heap.size x v2 (l ++ [(p (tl si)).1]) (p (tl si)).2 zz := by
        have hR := HLo.out.2
        refine ⟨hrow, H3.out.turn tg fun g hg e => by have := hown g e; omega, ?_, HLo.out, ?_, ?_⟩
        · refine H4.out.trans (G := fun k => (Value.slice lo l.length lc).ownBlock = some k) tg fun g hg e => by have := hown g e; omega
        · rw [← HM.out, eachs_on HF.out hk HN.out]
          simp
        · have h1 := HLe.out
          have h2 := tl_len (s := si) (by rw [HN.out]; exact hk)
          have h3 := (HF.out.suf (tl si)).length_le
          simp only [List.length_append, List.length_singleton]
          omega
      have HEa := Lib.hid hEa
      have hdec : (p (tl si)).2.rest.length < si.rest.length := by
        have h2 := tl_len (s := si) (by rw [HN.out]; exact hk)
        have h3 := (HF.out.suf (tl si)).length_le
        omega
      clear hrow tg hown hEa r2 g2 n2 HO HL HV2 H3 H4 HM HLe hlen
      go_wp2_with fail
      go_roundg ((p (tl si)).2.rest.length)
      case rel => exact ⟨_, _, rfl, HEa⟩
      case measure => exact hdec
    · rw [if_neg hn, decide_eq_false hn] at ht
      have HT := Lib.hid ht
      have HX := Lib.hid (show eachs p k s = (l, si) by rw [← HA.out.more, eachs_off hn]; simp)
      have HB := Lib.hid (And.intro HA.out.row (And.intro HA.out.turns HA.out.low))
      clear ht hn HA HP HF HE
      go_wp2_with (go_at_call 71; refine HT.out.mono ?_; rintro e y ⟨rfl, h1, h2⟩)
      go_ret
      rw [HX.out]
      exact ⟨_, rfl, HB.out.1.turn h2 fun g hg _ e => by have := HB.out.2.2.2; omega, h1, HB.out.2.1.trans h2 fun _ _ h => h⟩

set_option maxHeartbeats 4000000 in
set_option maxRecDepth 100000 in
theorem eachT_any {c : Ctx} {o : Nat} {f : FuncId} {p : St → Ty × St} (hp : Part tyE c o f p) (hf : Fine p) {k : Int} (hk : k ≠ 0) {s : St} {x : World} (h : Rd c o s x) :
    Calls Tryd.prog 50 #[.pointer (some ⟨c.R, 0, none⟩), .int .i64 k, .func (.func f) #[] #[]] x (Outs tyE 46 c o (eachs p k s) x) := by
  have HE := hp.enter
  have HP := Lib.hid hp
  have HF := Lib.hid hf
  have H0 : Ea tyE 46 c o p k (eachs p k s) x.heap.size x (.slice none 0 0) [] s x :=
    ⟨RowS.nil _ _ _ _, h, Turns.refl _ _, ⟨Nat.le_refl _, h.lt⟩, rfl, by have := h.len; have := h.env.len; simp; omega⟩
  have H0 := Lib.hid H0
  clear hp hf h
  go_enter Tryd.func50, Tryd.ntmps50
  go_wp2_with fail
  go_loopg [7] s.rest.length (fun q lv wr => ∃ (l : List Ty) (si : St), q = si.rest.length ∧ Hid (Ea tyE 46 c o p k (eachs p k s) x.heap.size x lv l si wr))
  case atStart => exact ⟨[], s, rfl, H0⟩
  case round =>
    clear H0
    obtain ⟨l, si, rfl, HA⟩ := hrel
    obtain ⟨lo, lc, rfl⟩ := HA.out.row.slice
    have ht := take_any HA.out.rd k hk
    by_cases hn : next si = k
    · rw [if_pos hn, decide_eq_true hn] at ht
      have HT := Lib.hid ht
      have HN := Lib.hid hn
      clear ht hn
      go_wp2_with (go_at_call 71; refine HT.out.mono ?_; rintro e y ⟨rfl, h1, h2⟩)
      refine (HP.out.run _ _ h1).mono ?_
      rintro e z ⟨v, rfl, hv, h3, h4⟩
      have hz : x.heap.size ≤ y.heap.size := Nat.le_trans HA.out.turns.size h2.size
      have hR : c.R < x.heap.size := HA.out.low.2
      have hlt : ∀ g, (Value.slice lo l.length lc).ownBlock = some g → g < y.heap.size := fun g hg => Nat.lt_of_lt_of_le (HA.out.row.own_lt hg).2 h2.size
      have hrow : RowS tyE z x.heap.size 46 (Value.slice lo l.length lc) l := (HA.out.row.turn h2 fun g hg _ e => by subst e; omega).turn h4 fun g hg _ e => by subst e; omega
      have HV := Lib.hid hv
      obtain ⟨ao, cap, us, B, rfl, -⟩ := (show TyS _ _ _ _ from HV.out)
      have al : Below z.heap.size z (z.alloc (.cells ([.string (p (tl si)).1.name, .slice ao (p (tl si)).1.rels.length cap]).toArray 46)) := (Below.refl _ _).alloc (Nat.le_refl _) _
      have HV2 := Lib.hid (Elt.below (E := tyE) HV.out al)
      obtain ⟨vs, o1, o2, o3⟩ := hrow.below al
      have H3 := Lib.hid (h3.below al)
      have H4 := Lib.hid (((HA.out.turns.trans h2 fun _ _ h => h).trans h4 fun _ _ h => h).then_below al)
      obtain ⟨ti, tz, tb, TE, hT⟩ := elT
      have HO := Lib.hid (And.intro o1 (And.intro o2 (And.intro o3 (And.intro TE hT))))
      have HL := Lib.hid (And.intro hlt (And.intro hz (And.intro h4.size al.size)))
      have hlen : l.length ≤ 10000 := by have := HA.out.len; omega
      have HM := Lib.hid HA.out.more
      have HLe := Lib.hid HA.out.len
      have HLo := Lib.hid HA.out.low
      clear hv h3 h4 hrow o1 o2 o3 TE hT hlt hz h1 h2 HA HV al HT HE
      go_wp2_with (at_builtin; refine walk_rows HO.out.2.2.2.1 rfl _ _ rfl rfl rfl HO.out.1 (by have := HL.out.2; omega) (m := 1) rfl (new_cells _ _ ([.string (p (tl si)).1.name, .slice ao (p (tl si)).1.rels.length cap]) (by simp)) (by intro u' hu'; simp at hu'; rcases hu' with rfl | rfl <;> rfl) (by omega) (Nat.le_trans (Nat.mul_le_mul_left _ HO.out.2.2.2.2) (by omega)) ?_)
      intro v2 zz r2 g2 n2
      have hrow : RowS tyE zz x.heap.size 46 v2 (l ++ [(p (tl si)).1]) :=
        RowS.grow (C := y.heap.size) (us := [tyV (p (tl si)).1 (.slice ao (p (tl si)).1.rels.length cap)]) HO.out.2.1 HO.out.2.2.1 rfl (fun i a u hi hu => by
          cases i with
          | zero =>
            obtain rfl : (p (tl si)).1 = a := by simpa using hi
            obtain rfl := Option.some.inj hu
            exact HV2.out
          | succ i => simp at hi) (fun g hg _ => ⟨by have := HL.out.2.1; omega, fun e => by have := HL.out.1 g e; omega⟩) (by rw [cellsV_one]; exact r2) g2 n2
      have tg : Turns (fun k => (Value.slice lo l.length lc).ownBlock = some k) _ zz := Turns.of_grown g2 fun k hk => hk
      have hown : ∀ k, (Value.slice lo l.length lc).ownBlock = some k → x.heap.size ≤ k := fun k hk => (HO.out.1.lt k hk).1
      have hEa : Ea tyE 46 c o p k (eachs p k s) x.heap.size x v2 (l ++ [(p (tl si)).1]) (p (tl si)).2 zz := by
        have hR := HLo.out.2
        refine ⟨hrow, H3.out.turn tg fun g hg e => by have := hown g e; omega, ?_, HLo.out, ?_, ?_⟩
        · refine H4.out.trans (G := fun k => (Value.slice lo l.length lc).ownBlock = some k) tg fun g hg e => by have := hown g e; omega
        · rw [← HM.out, eachs_on HF.out hk HN.out]
          simp
        · have h1 := HLe.out
          have h2 := tl_len (s := si) (by rw [HN.out]; exact hk)
          have h3 := (HF.out.suf (tl si)).length_le
          simp only [List.length_append, List.length_singleton]
          omega
      have HEa := Lib.hid hEa
      have hdec : (p (tl si)).2.rest.length < si.rest.length := by
        have h2 := tl_len (s := si) (by rw [HN.out]; exact hk)
        have h3 := (HF.out.suf (tl si)).length_le
        omega
      clear hrow tg hown hEa r2 g2 n2 HO HL HV2 H3 H4 HM HLe hlen
      go_wp2_with fail
      go_roundg ((p (tl si)).2.rest.length)
      case rel => exact ⟨_, _, rfl, HEa⟩
      case measure => exact hdec
    · rw [if_neg hn, decide_eq_false hn] at ht
      have HT := Lib.hid ht
      have HX := Lib.hid (show eachs p k s = (l, si) by rw [← HA.out.more, eachs_off hn]; simp)
      have HB := Lib.hid (And.intro HA.out.row (And.intro HA.out.turns HA.out.low))
      clear ht hn HA HP HF HE
      go_wp2_with (go_at_call 71; refine HT.out.mono ?_; rintro e y ⟨rfl, h1, h2⟩)
      go_ret
      rw [HX.out]
      exact ⟨_, rfl, HB.out.1.turn h2 fun g hg _ e => by have := HB.out.2.2.2; omega, h1, HB.out.2.1.trans h2 fun _ _ h => h⟩
end Gr
end Go.Proofs.YtbphmaoomnocmaaDoor
