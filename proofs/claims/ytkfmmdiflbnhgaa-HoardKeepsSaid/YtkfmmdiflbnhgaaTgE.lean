/-
  Layer 12's document: its lists of writes as values; appends to them; boxes of five cells, on and on.
  Layer 12's document: Flush.
-/
import Derived.Test.YtkfmmdiflbnhgaaTgC
import Derived.Test.YtkfmmdiflbnhgaaInA
namespace Go.Proofs.Ytkfmmdiflbnhgaa
set_option maxRecDepth 100000
open Go.RowKit
namespace Ta
open Knot (Turns NewRow)
open Tr (IsElem append_rows append_none wp_rows own_turn own_below own_slice own_open addp)
abbrev tDw : TypeId := 119
abbrev tDs : TypeId := 35
theorem dwElem : ∃ i z b, IsElem Try.prog tDs tDw i z 129 b ∧ b ≤ 200 := by
  refine ⟨_, _, _, ⟨by kernel_rfl, rfl, rfl, by kernel_rfl, rfl, by kernel_rfl, by omega⟩, ?_⟩
  exact of_decide_eq_true (by kernel_rfl)
theorem zero_dw (W : World) : (zeroValue tDw).run Try.prog W = .ok (.agg (wrc 0 nul)) W := by kernel_rfl
theorem info_dw : (Try.prog.info? tDw).map (·.size) = some 129 := by kernel_rfl
theorem store_dw (W : World) (b : Nat) (j k : Int) (c c' : List UInt8) (hb : b = W.heap.size) (hc : c.length = 128) (hc' : c'.length = 128) : (storeCells ⟨b, 0, none⟩ (wrc k c').toList 0).run Try.prog (W.alloc (.cells (wrc j c) tDw)) = .ok () (W.alloc (.cells (wrc k c') tDw)) := by
  subst hb
  exact run_storeCells_new W tDw _ _ (by rw [wr_size hc']; exact info_dw) (by rw [wr_size hc, wr_size hc']) (wr_one _ _)
theorem load_dw (W : World) (g q : Nat) (k : Int) (c : List UInt8) (hc : c.length = 128) (h : W.rangeAt g q (wrc k c).toList) : (Instr.loadAt tDw (.pointer (some ⟨g, q, none⟩))).run Try.prog W = .ok (.agg (wrc k c)) W := by
  have := run_loadAt_mid (P := Try.prog) W g q tDw (wrc k c).toList _ h Try.underlying119 rfl (by rw [Array.length_toList, wr_size hc]; exact info_dw)
  rw [Array.toArray_toList] at this
  exact this
theorem dw_range {w : World} {g : Nat} {T : TypeId} {k : Int} {b : List UInt8} (h : w.heap[g]? = some (.cells (wrc k b) T (0, 0))) : w.rangeAt g 0 (wrc k b).toList := fun j v hj => by
  rw [Lib.cell_of_heap h, Nat.zero_add]
  simpa using hj
set_option maxRecDepth 100000 in
theorem one_dw (W : World) (k : Int) (c : List UInt8) (hc : c.length = 128) : (Instr.buildSlice tDs 1 #[(0, .agg (wrc k c))]).run Try.prog W = .ok (.slice (some ⟨W.heap.size, 0, none⟩) 1 1) (W.alloc (.cells (wrc k c) tDw)) := by
  obtain ⟨i, z, b, T, -⟩ := dwElem
  have hs := T.size
  obtain ⟨r, hr, h1, h2⟩ := Great.fill_dense (s := 129) (by omega) [.agg (wrc k c)] 0 ((Array.range (1 * i.size)).map (z.cells[· % z.cells.size]!)) (fun v hv => by
    rw [List.mem_singleton] at hv
    subst hv
    exact wr_size hc k) (by simp [hs])
  have e : r = wrc k c := by
    refine Array.ext_getElem? fun q => ?_
    have hq := h2 q
    by_cases hlt : q < 129
    · rw [if_pos (by simp; omega)] at hq
      have e1 : q / 129 = 0 := by omega
      have e2 : q % 129 = q := by omega
      rw [hq, e1, e2]
      rfl
    · rw [Array.getElem?_eq_none (by rw [h1]; simp [hs]; omega), Array.getElem?_eq_none (by rw [wr_size hc]; omega)]
  subst e
  exact run_buildSlice W tDs tDw 1 #[(0, .agg (wrc k c))] (wrc k c) i z T.under T.info T.zero (by rw [hs]; omega) (by rw [hs]; omega) (by rw [hs] at hr ⊢; exact hr)
theorem empty_dw (W : World) : (Instr.buildSlice tDs 0 #[]).run Try.prog W = .ok (.slice (some ⟨W.heap.size, 0, none⟩) 0 0) (W.alloc (.cells #[] tDw)) := by kernel_rfl
theorem empty_row (w : World) : (w.alloc (.cells #[] tDw)).ownsRow w.heap.size tDw 129 (.slice (some ⟨w.heap.size, 0, none⟩) 0 0) 0 [] := World.ownsRow_made w #[] 0 (Nat.le_refl _) (by unfold maxLen; omega) rfl

/-- A list of writes as a value. -/
def IsW (w : World) (v : Value) (l : List (Int × List UInt8)) : Prop := ∃ ao q, v = .slice ao l.length q ∧ Wrs w ao l ∧ (ao = none → l = [] ∧ q = 0)
section
variable {w x y : World} {v : Value} {l : List (Int × List UInt8)}
theorem IsW.below (h : IsW w v l) (hb : Below w.heap.size w x) : IsW x v l := by
  obtain ⟨ao, q, rfl, hw, h0⟩ := h
  exact ⟨ao, q, rfl, hw.below hb, h0⟩
theorem isW_nil (w : World) : IsW w (.slice none 0 0) [] := ⟨none, 0, rfl, ⟨by simp, fun p hp => by simp at hp, fun h => absurd rfl h⟩, fun _ => ⟨rfl, rfl⟩⟩
theorem IsW.len (h : IsW w v l) : ∀ p ∈ l, p.2.length = 128 := by
  obtain ⟨ao, q, rfl, hw, -⟩ := h
  exact hw.len
theorem IsW.slice (h : IsW w v l) : ∃ ao q, v = .slice ao l.length q := by
  obtain ⟨ao, q, rfl, -⟩ := h
  exact ⟨ao, q, rfl⟩
theorem wrs_cells {g o : Nat} {l : List (Int × List UInt8)} (h : Wrs w (some ⟨g, o, none⟩) l) (j : Nat) (u : Value) (hu : (wcells l)[j]? = some u) : w.cell? ((⟨g, o, none⟩ : Addr).add j) = some u := by
  have hj := (List.getElem?_eq_some_iff.1 hu).1
  rw [wcells_len h.len] at hj
  have hk : j / 129 < l.length := by omega
  obtain ⟨g', o', e, hc⟩ := h.row (fun e => by rw [e] at hk; simp at hk)
  obtain ⟨rfl, rfl⟩ : g = g' ∧ o = o' := by simpa using e
  obtain ⟨h1, h2⟩ := hc (j / 129) hk
  have e1 : j = j / 129 * 129 + j % 129 := by omega
  have hu' := hu
  rw [e1, wcells_at h.len hk (by omega)] at hu'
  rw [addp]
  cases hm : j % 129 with
  | zero =>
    rw [hm] at hu'
    have : o + j = o + j / 129 * 129 := by omega
    rw [this, h1]
    exact hu'
  | succ m =>
    rw [hm, List.getElem?_cons_succ] at hu'
    have : o + j = o + j / 129 * 129 + 1 + m := by omega
    rw [this]
    exact h2 m u hu'
/-- A list of writes behind a row of writes. -/
theorem app_dw {B n : Nat} {r : Value} {xs : List Value} (hown : w.ownsRow B tDw 129 r n xs) (hB : B ≤ w.heap.size) (h : IsW w v l) (ty : TypeId) (hz : n + l.length ≤ 1000000) :
    ∃ r' y, (Builtin.append_ #[tDs, tDs] ty #[r, v]).run Try.prog w = .ok r' y ∧ y.ownsRow B tDw 129 r' (n + l.length) (xs ++ wcells l) ∧ w.grownBy y r.ownBlock ∧ NewRow w r r' := by
  obtain ⟨i, z, b, T, hb⟩ := dwElem
  obtain ⟨ao, q, rfl, hw, h0⟩ := h
  cases ao with
  | none =>
    obtain ⟨rfl, rfl⟩ := h0 rfl
    refine ⟨r, w, append_none T ty hown (by omega), ?_, ⟨rfl, rfl, rfl, Nat.le_refl _, fun _ _ _ => rfl⟩, NewRow.refl _ _⟩
    simpa [wcells] using hown
  | some a =>
    by_cases hl : l = []
    · subst hl
      exact append_rows T ty hown hB (m := 0) (news := []) rfl (fun j u hj => by simp at hj) (fun u hu => by simp at hu) (by omega) (Nat.le_trans (Nat.mul_le_mul_left _ hb) (by simp at hz; omega))
    · obtain ⟨g, o, e, -⟩ := hw.row hl
      obtain rfl := Option.some.inj e
      exact append_rows T ty hown hB (m := l.length) (news := wcells l) (wcells_len hw.len) (wrs_cells hw) (one_writes l) (by omega) (Nat.le_trans (Nat.mul_le_mul_left _ hb) (by omega))
theorem wp_app {ops : Go.Act → World → Prop} {Q : Exit → Go.Act → World → Prop} {o : Oper} {a : Go.Act} {B n : Nat} {r : Value} {xs : List Value} (s q : Operand) (ho : o.op = .call { callee := .builtin .append, args := #[s, q], argTypes := #[tDs, tDs] })
    (hs : a.eval s = r) (hq : a.eval q = v) (hown : w.ownsRow B tDw 129 r n xs) (hB : B ≤ w.heap.size) (h : IsW w v l) (hz : n + l.length ≤ 1000000)
    (hK : ∀ r' y, y.ownsRow B tDw 129 r' (n + l.length) (xs ++ wcells l) → w.grownBy y r.ownBlock → NewRow w r r' → ops (a.put o.dst r') y) : o.wp Try.prog a w ops Q := by
  obtain ⟨r', y, hr, h2, h3, h4⟩ := app_dw hown hB h o.type hz
  unfold Oper.wp execOp
  simp only [ho, resolve, invoke, builtin, Sem.run_bind, Sem.run_pure, Result.andThen_ok, List.map_toArray, List.map_cons, List.map_nil, hs, hq, hr]
  exact hK r' y h2 h3 h4
/-- A row of writes that is owned, as a list of writes. -/
theorem own_isW {B : Nat} (h : w.ownsRow B tDw 129 v l.length (wcells l)) (hl : ∀ p ∈ l, p.2.length = 128) : IsW w v l := by
  rcases h.2 with ⟨rfl, h0⟩ | ⟨g, cap, cur, rfl, hb, hg, hn, hc, hs, ht⟩
  · obtain rfl : l = [] := List.eq_nil_of_length_eq_zero h0
    exact isW_nil w
  · refine ⟨some ⟨g, 0, none⟩, cap, rfl, ⟨Nat.le_trans hn (Nat.le_trans hc (by decide)), hl, fun _ => ⟨g, 0, rfl, fun i hi => ?_⟩⟩, fun e => by cases e⟩
    have hr : w.ownsRow B tDw 129 (.slice (some ⟨g, 0, none⟩) l.length cap) l.length (wcells l) := ⟨h.1, .inr ⟨g, cap, cur, rfl, hb, hg, hn, hc, hs, ht⟩⟩
    refine ⟨?_, fun j u hu => ?_⟩
    · have := wcells_at hl hi (j := 0) (by omega)
      rw [Nat.add_zero] at this
      rw [Nat.zero_add, hr.cellAt _ (by omega), this]
      rfl
    · have hj : j < 128 := by
        have := (List.getElem?_eq_some_iff.1 hu).1
        rw [Lib.byteCells_length, hl _ (List.getElem_mem hi)] at this
        exact this
      rw [Nat.zero_add, hr.cellAt _ (by omega), show i * 129 + 1 + j = i * 129 + (1 + j) by omega, wcells_at hl hi (by omega), Nat.add_comm 1 j, List.getElem?_cons_succ]
      exact hu
/-- A write as a list of one. -/
theorem lit_isW {g : Nat} {k : Int} {b : List UInt8} (h : w.heap[g]? = some (.cells (wrc k b) tDw (0, 0))) (hb : b.length = 128) : IsW w (.slice (some ⟨g, 0, none⟩) 1 1) [(k, b)] := by
  have := own_isW (w := w) (v := .slice (some ⟨g, 0, none⟩) 1 1) (l := [(k, b)]) (B := 0) ⟨by simp [wcells, Lib.byteCells_length, hb], .inr ⟨g, 1, wrc k b, rfl, Nat.zero_le _, h, Nat.le_refl _, by decide, wr_size hb k, by
    have e : (wrc k b).toList = wcells [(k, b)] := by simp [wrc, wcells]
    rw [e]
    exact List.take_of_length_le (by simp [wcells, Lib.byteCells_length, hb])⟩⟩ (fun p hp => by rw [List.mem_singleton] at hp; rw [hp]; exact hb)
  exact this

/-- The document's tray as a value, whatever of the blocks in F turns. -/
def IsD (F : Nat → Prop) (w : World) (v : Value) (n : Int) (t : Tray (List UInt8)) : Prop := ∃ kv cv, v = trV n kv cv t.left t.dark ∧ Stay F w (fun x => IsW x kv t.kept) ∧ Stay F w (fun x => IsW x cv t.cache)
theorem IsD.below {F : Nat → Prop} {n : Int} {t : Tray (List UInt8)} (h : IsD F w v n t) (hb : Below w.heap.size w x) : IsD F x v n t := by
  obtain ⟨kv, cv, rfl, h1, h2⟩ := h
  exact ⟨kv, cv, rfl, h1.below hb, h2.below hb⟩
theorem IsD.more {F : Nat → Prop} {n : Int} {t : Tray (List UInt8)} (h : IsD F w v n t) (ht : Turns F w x) : IsD (Grow F w x) x v n t := by
  obtain ⟨kv, cv, rfl, h1, h2⟩ := h
  exact ⟨kv, cv, rfl, h1.more ht, h2.more ht⟩
theorem stay_own {F : Nat → Prop} {B : Nat} (h : w.ownsRow B tDw 129 v l.length (wcells l)) (hl : ∀ p ∈ l, p.2.length = 128) (hF : ∀ k, F k → k < B) : Stay F w (fun x => IsW x v l) := fun z hz =>
  own_isW (own_turn h hz fun k hk hf => by have := (h.lt k hk).1; have := hF k hf; omega) hl
theorem stay_nil (F : Nat → Prop) (w : World) : Stay F w (fun x => IsW x (.slice none 0 0) []) := fun z _ => isW_nil z
section
variable {R : Nat} {T : TypeId} {a b c d e a' b' c' d' e' : Value}
theorem C5.on (h : C5 R T a b c d e x) (hb : Below x.heap.size x y) : C5 R T a b c d e y := (hb.block R (Array.getElem?_eq_some_iff.1 h).1).trans h
theorem C5.turn {F : Nat → Prop} (h : C5 R T a b c d e x) (ht : Turns F x y) (hF : ¬ F R) : C5 R T a b c d e y := ht.heap h hF
theorem C5.lt (h : C5 R T a b c d e x) : R < x.heap.size := (Array.getElem?_eq_some_iff.1 h).1
theorem C5.put (h : C5 R T a b c d e x) (a' b' c' d' e' : Value) : C5 R T a' b' c' d' e' (st5 x R a' b' c' d' e') := by
  have h0 := heap_setCell_same x R 0 _ T a' h
  have h1 := heap_setCell_same _ R 1 _ T b' h0
  have h2 := heap_setCell_same _ R 2 _ T c' h1
  have h3 := heap_setCell_same _ R 3 _ T d' h2
  exact heap_setCell_same _ R 4 _ T e' h3
theorem st5_turns (x : World) (R : Nat) (a b c d e : Value) : Turns (fun k => k = R) x (st5 x R a b c d e) :=
  (((((Turns.refl (fun k => k = R) x).setCell (p := ⟨R, 0, none⟩) rfl a).setCell (p := ⟨R, 1, none⟩) rfl b).setCell (p := ⟨R, 2, none⟩) rfl c).setCell (p := ⟨R, 3, none⟩) rfl d).setCell (p := ⟨R, 4, none⟩) rfl e
theorem C5.set (h : C5 R T a b c d e x) (j : Nat) (v : Value) : (x.setCell ⟨R, j, none⟩ v).heap[R]? = some (.cells (#[a, b, c, d, e].setIfInBounds j v) T (0, 0)) := heap_setCell_same x R j _ T v h
end
end
end Ta
end Go.Proofs.Ytkfmmdiflbnhgaa

namespace Go.Proofs.Ytkfmmdiflbnhgaa
set_option maxRecDepth 100000
open Go.RowKit
namespace Ta
open Knot (Turns NewRow)
open Tr (IsElem append_rows wp_rows own_turn own_below own_slice own_open addp)

/-- What the document's step makes of a tray: its parts. -/
theorem step_doc (t : Tray (List UInt8)) : (if t.left = 0 then t.left else if 0 < t.left then t.left - 1 else t.left) = t.step.left ∧ (decide (t.left = 0) || t.dark) = t.step.dark := by
  unfold Tray.step
  by_cases h : t.left = 0
  · rw [if_pos h, if_pos h]
    exact ⟨rfl, by simp [h]; rfl⟩
  · rw [if_neg h, if_neg h]
    exact ⟨rfl, by simp [h]; rfl⟩
theorem dstep_any (n : Int) (kv cv : Value) (t : Tray (List UInt8)) (hk : ∃ a m q, kv = .slice a m q) (hc : ∃ a m q, cv = .slice a m q) (hl : -1 ≤ t.left ∧ t.left ≤ 1099511627776) (ok : Bool) (hok : ok = decide (t.left ≠ 0)) (w : World) :
    Calls Try.prog 61 #[trV n kv cv t.left t.dark] w fun e x => e = .returned (.tuple #[trV n kv cv t.step.left t.step.dark, .bool ok]) ∧ Below w.heap.size w x := by
  subst hok
  refine (rstep_any n kv cv hk hc t.left hl t.dark w).mono ?_
  rintro e x ⟨rfl, hb⟩
  obtain ⟨h1, h2⟩ := step_doc t
  refine ⟨?_, hb⟩
  rw [← h1, ← h2]
  by_cases h : t.left = 0
  · rw [if_pos h, if_pos h]
    simp [h]
  · rw [if_neg h, if_neg h]
    simp [h]

set_option maxHeartbeats 4000000 in
set_option maxRecDepth 100000 in
theorem dflush_any (F : Nat → Prop) (n : Int) (v : Value) (t : Tray (List UInt8)) (w : World) (hF : ∀ k, F k → k < w.heap.size) (h : IsD F w v n t) (hl : -1 ≤ t.left ∧ t.left ≤ 1099511627776) (hz : t.kept.length + t.cache.length ≤ 1000000) :
    Calls Try.prog 57 #[v] w fun e x => ∃ v', e = .returned (.tuple #[v', .int .i64 (if t.left = 0 then 20 else 0)]) ∧ IsD F x v' n t.flush ∧ Below w.heap.size w x := by
  obtain ⟨kv, cv, rfl, hk, hc⟩ := h
  obtain ⟨ka, kq, rfl⟩ := hk.now.slice
  obtain ⟨co, cq, rfl⟩ := hc.now.slice
  obtain ⟨ok, hok⟩ : ∃ ok : Bool, ok = decide (t.left ≠ 0) := ⟨_, rfl⟩
  have HS := Lib.hid (fun W => dstep_any n (.slice ka t.kept.length kq) (.slice co t.cache.length cq) t ⟨_, _, _, rfl⟩ ⟨_, _, _, rfl⟩ hl ok hok W)
  have HOk := Lib.hid hok
  clear hok
  have HKC := Lib.hid (And.intro hk (And.intro hc hz))
  have HFl := Lib.hid hF
  clear hF
  obtain ⟨X, hX⟩ : ∃ X, X = (w.alloc (.cells #[.int .i64 n, .slice ka t.kept.length kq, .slice co t.cache.length cq, .int .i64 t.left, .bool t.dark] tTr)).alloc (.cells #[.int .i64 0, .slice none 0 0, .slice none 0 0, .int .i64 0, .bool false] tTr) := ⟨_, rfl⟩
  have h2 := two5 w (.cells #[.int .i64 n, .slice ka t.kept.length kq, .slice co t.cache.length cq, .int .i64 t.left, .bool t.dark] tTr) tTr (.int .i64 0) (.slice none 0 0) (.slice none 0 0) (.int .i64 0) (.bool false)
  have hR : C5 w.heap.size tTr (.int .i64 n) (.slice ka t.kept.length kq) (.slice co t.cache.length cq) (.int .i64 t.left) (.bool t.dark) X := by
    rw [hX]
    exact C5.on (x := w.alloc _) (heap_alloc_new w _) ((Below.refl _ _).alloc (Nat.le_refl _) _)
  rw [← hX] at h2
  have HX := Lib.hid (And.intro h2.2 (And.intro hR h2.1))
  unfold trV at HS
  clear hk hc hl hz hR h2
  generalize hN : w.heap.size = N at *
  have HN := Lib.hid hN
  go_enter Try.func57, Try.ntmps57
  go_upto_region 1 with fail
  unfold trV
  rw [← hX]
  clear hX hN
  obtain ⟨c0, c1, c2, c3, c4⟩ := HX.out.2.1.cells
  go_wp2_with fail
  refine (HS.out X).mono ?_
  rintro e x1 ⟨rfl, hb1⟩
  clear c0 c1 c2 c3 c4
  have hR1 := HX.out.2.1.on hb1
  obtain ⟨c0, c1, c2, c3, c4⟩ := hR1.cells
  obtain ⟨f0, f1, f2, f3, f4⟩ := hR1.free
  have HY := Lib.hid (show Below N w (st5 x1 N (.int .i64 n) (.slice ka t.kept.length kq) (.slice co t.cache.length cq) (.int .i64 t.step.left) (.bool t.step.dark)) ∧ C5 N tTr (.int .i64 n) (.slice ka t.kept.length kq) (.slice co t.cache.length cq) (.int .i64 t.step.left) (.bool t.step.dark) (st5 x1 N (.int .i64 n) (.slice ka t.kept.length kq) (.slice co t.cache.length cq) (.int .i64 t.step.left) (.bool t.step.dark)) ∧ C5 (N + 1) tTr (.int .i64 0) (.slice none 0 0) (.slice none 0 0) (.int .i64 0) (.bool false) (st5 x1 N (.int .i64 n) (.slice ka t.kept.length kq) (.slice co t.cache.length cq) (.int .i64 t.step.left) (.bool t.step.dark)) from by
    have ht := st5_turns x1 N (.int .i64 n) (.slice ka t.kept.length kq) (.slice co t.cache.length cq) (.int .i64 t.step.left) (.bool t.step.dark)
    have hz := HX.out.1.size
    have hz1 := hb1.size
    have hn := HN.out
    exact ⟨(HX.out.1.trans (hb1.mono (by omega))).trans (ht.below (B := N) (by omega) fun k e => by rw [e]; exact Nat.le_refl _), hR1.put _ _ _ _ _, (HX.out.2.2.on hb1).turn ht (by omega)⟩)
  clear hR1 hb1 HX HS
  go_upto_region 2 with fail
  clear c0 c1 c2 c3 c4 f0 f1 f2 f3 f4
  change Code.wp _ _ _ _ (st5 x1 N (.int .i64 n) (.slice ka t.kept.length kq) (.slice co t.cache.length cq) (.int .i64 t.step.left) (.bool t.step.dark))
  generalize st5 x1 N (.int .i64 n) (.slice ka t.kept.length kq) (.slice co t.cache.length cq) (.int .i64 t.step.left) (.bool t.step.dark) = Y at *
  by_cases h0 : t.left = 0
  · obtain rfl : ok = false := by rw [HOk.out]; simp [h0]
    have HZ := Lib.hid h0
    have HQ := Lib.hid (show t.step = t.dim ∧ t.flush = t.dim by unfold Tray.step Tray.flush; rw [if_pos h0, if_pos h0]; exact ⟨rfl, rfl⟩)
    clear h0 HOk
    obtain ⟨c0, c1, c2, c3, c4⟩ := HY.out.2.1.cells
    obtain ⟨d0, d1, d2, d3, d4⟩ := HY.out.2.2.cells
    obtain ⟨f0, f1, f2, f3, f4⟩ := HY.out.2.2.free
    have HT := Lib.hid (And.intro (st5_turns Y (N + 1) (.int .i64 n) (.slice ka t.kept.length kq) (.slice co t.cache.length cq) (.int .i64 t.step.left) (.bool t.step.dark)) (HY.out.2.2.put (.int .i64 n) (.slice ka t.kept.length kq) (.slice co t.cache.length cq) (.int .i64 t.step.left) (.bool t.step.dark)))
    go_wp2_with fail
    change bodyPost _ _ _ _ _ (st5 Y (N + 1) (.int .i64 n) (.slice ka t.kept.length kq) (.slice co t.cache.length cq) (.int .i64 t.step.left) (.bool t.step.dark))
    clear d0 d1 d2 d3 d4 f0 f1 f2 f3 f4 c0 c1 c2 c3 c4
    generalize st5 Y (N + 1) (.int .i64 n) (.slice ka t.kept.length kq) (.slice co t.cache.length cq) (.int .i64 t.step.left) (.bool t.step.dark) = Fin at *
    obtain ⟨g0, g1, g2, g3, g4⟩ := HT.out.2.cells
    have hfin := HY.out.1.trans (HT.out.1.below (B := N) (by have := HY.out.1.size; have := HN.out; omega) fun k e => by rw [e]; exact Nat.le_succ N)
    refine bodyPost_ret (v := .tuple #[.agg #[.int .i64 n, .slice ka t.kept.length kq, .slice co t.cache.length cq, .int .i64 t.step.left, .bool t.step.dark], .int .i64 20]) (by simp [results, Try.results57, go_sem, g0, g1, g2, g3, g4]) rfl ⟨_, rfl, ?_, hfin⟩
    rw [HQ.out.1, HQ.out.2]
    exact ⟨_, _, rfl, HKC.out.1.below (hfin.mono (Nat.le_of_eq HN.out)), HKC.out.2.1.below (hfin.mono (Nat.le_of_eq HN.out))⟩
  · obtain rfl : ok = true := by rw [HOk.out]; simp [h0]
    have HZ := Lib.hid h0
    have HQ := Lib.hid (show t.flush = { t.step with kept := t.kept ++ t.cache, cache := [] } by unfold Tray.step Tray.flush; rw [if_neg h0, if_neg h0])
    clear h0 HOk
    have HF := Lib.hid (show ∀ x, Below Y.heap.size Y x → x.cell? ⟨N, 1, none⟩ = some (.slice ka t.kept.length kq) ∧ x.cell? ⟨N, 2, none⟩ = some (.slice co t.cache.length cq) from fun x hx => ⟨(HY.out.2.1.on hx).cells.2.1, (HY.out.2.1.on hx).cells.2.2.1⟩)
    go_wp2_with fail
    refine Order.beginE (fun x => Below Y.heap.size Y x) [7, 8] (by kernel_rfl) ?_
    refine Order.readsE_any (idx := [1, 2, 4, 5]) (by kernel_rfl) (Below.refl _ _).drew (fun _ _ _ _ _ h => Order.noPanic_put h) 5 _ _ (by decide +kernel) ?_
    simp only [Order.pick, List.getElem?_toArray, List.getElem?_cons_zero, List.getElem?_cons_succ]
    repeat (first
      | (refine Order.reads_off (by rfl) ?_
         simp only [Act.put, List.setIfInBounds_toArray, List.set_cons_zero, List.set_cons_succ])
      | (apply Order.reads_on
         · rfl
         · intro x hx
           first
             | (obtain ⟨q0, q1⟩ := HF.out x hx
                exact Order.load_at rfl rfl (by assumption))
             | (go_simp; rfl)
             | (obtain ⟨q0, q1⟩ := HF.out x hx
                go_simp; rfl)
         simp only [Act.put, List.setIfInBounds_toArray, List.set_cons_zero, List.set_cons_succ]))
    refine Order.reads_end ?_
    apply Order.actE (i := 0)
    · rfl
    · decide +kernel
    · rfl
    simp only [List.getElem_toArray, List.getElem_cons_zero]
    refine Order.wp_lit0 rfl (empty_dw _) ?_
    have hb2 : Below Y.heap.size Y (Y.drew.alloc (.cells #[] tDw)) := (Below.refl _ _).drew.alloc (Nat.le_refl _) _
    refine ⟨hb2, ?_⟩
    have hro := empty_row Y.drew
    change (Y.drew.alloc (.cells #[] tDw)).ownsRow Y.heap.size tDw 129 (.slice (some ⟨Y.heap.size, 0, none⟩) 0 0) 0 [] at hro
    have H2 := Lib.hid (And.intro hb2 hro)
    clear hb2 hro
    generalize Y.drew.alloc (.cells #[] tDw) = Y2 at *
    apply Order.actE (i := 3)
    · rfl
    · decide +kernel
    · rfl
    simp only [List.getElem_toArray, List.getElem_cons_succ, List.getElem_cons_zero]
    refine wp_app _ _ rfl rfl rfl H2.out.2 H2.out.1.size (HKC.out.1.now.below (by have := HY.out.1.trans (H2.out.1.mono (by have := HY.out.1.size; have := HN.out; omega)); rw [← HN.out] at this; exact this)) (by have := HKC.out.2.2; omega) ?_
    intro r3 Y3 o3 g3 n3
    rw [Nat.zero_add, List.nil_append] at o3
    have hb3 : Below Y.heap.size Y Y3 := H2.out.1.grown g3 H2.out.1.size fun k hk => by
      have : Y.heap.size = k := Option.some.inj hk
      omega
    refine ⟨hb3, ?_⟩
    obtain ⟨a3, p3, rfl⟩ := own_slice o3
    have H3 := Lib.hid (And.intro hb3 o3)
    clear hb3 o3 g3 n3 H2
    apply Order.actE (i := 6)
    · rfl
    · decide +kernel
    · rfl
    simp only [List.getElem_toArray, List.getElem_cons_succ, List.getElem_cons_zero]
    refine wp_app _ _ rfl rfl rfl H3.out.2 H3.out.1.size (HKC.out.2.1.now.below (by have := HY.out.1.trans (H3.out.1.mono (by have := HY.out.1.size; have := HN.out; omega)); rw [← HN.out] at this; exact this)) (by have := HKC.out.2.2; omega) ?_
    intro r4 Y4 o4 g4 n4
    have hb4 : Below Y.heap.size Y Y4 := H3.out.1.grown g4 H3.out.1.size fun k hk => (H3.out.2.lt k hk).1
    refine ⟨hb4, ?_⟩
    obtain ⟨a4, p4, rfl⟩ := own_slice o4
    have hR4 := HY.out.2.1.on hb4
    obtain ⟨d0, d1, d2, d3, d4⟩ := hR4.cells
    obtain ⟨f0, f1, f2, f3, f4⟩ := hR4.free
    have H4 := Lib.hid (And.intro hb4 (And.intro o4 hR4))
    clear hb4 o4 g4 n4 hR4 H3
    apply Order.lastE (i := 7)
    · rfl
    · decide +kernel
    · decide
    · rfl
    unfold Oper.wp
    go_simp
    apply Order.lastE (i := 8)
    · rfl
    · decide +kernel
    · decide
    · rfl
    unfold Oper.wp
    go_simp
    refine Order.doneE (by decide +kernel) ?_ _
    refine NoPanic.normal ?_
    clear HF d0 d1 d2 d3 d4 f0 f1 f2 f3 f4
    obtain ⟨hb4, o4, hR4⟩ := H4.out
    have hlen : ∀ q ∈ t.kept ++ t.cache, q.2.length = 128 := fun q hq => (List.mem_append.1 hq).elim (HKC.out.1.now.len q) (HKC.out.2.1.now.len q)
    obtain ⟨Z, hZ⟩ : ∃ Z, Z = Y4.setCell ⟨N, 1, none⟩ (.slice a4 (t.kept.length + t.cache.length) p4) := ⟨_, rfl⟩
    have hZR : C5 N tTr (.int .i64 n) (.slice a4 (t.kept.length + t.cache.length) p4) (.slice co t.cache.length cq) (.int .i64 t.step.left) (.bool t.step.dark) Z := by rw [hZ]; exact hR4.set 1 _
    have htZ : Turns (fun k => k = N) Y4 Z := by rw [hZ]; exact (Turns.refl (fun k => k = N) Y4).setCell (p := ⟨N, 1, none⟩) rfl _
    rw [← hZ]
    clear hZ
    obtain ⟨V, hV⟩ : ∃ V, V = Z.setCell ⟨N, 2, none⟩ (.slice none 0 0) := ⟨_, rfl⟩
    have hVR : C5 N tTr (.int .i64 n) (.slice a4 (t.kept.length + t.cache.length) p4) (.slice none 0 0) (.int .i64 t.step.left) (.bool t.step.dark) V := by rw [hV]; exact hZR.set 2 _
    have htV : Turns (fun k => k = N) Z V := by rw [hV]; exact (Turns.refl (fun k => k = N) Z).setCell (p := ⟨N, 2, none⟩) rfl _
    have hVM : C5 (N + 1) tTr (.int .i64 0) (.slice none 0 0) (.slice none 0 0) (.int .i64 0) (.bool false) V := (((HY.out.2.2.on hb4).turn htZ (by omega)).turn htV (by omega))
    have htt : Turns (fun k => k = N) Y4 V := htZ.trans htV fun _ _ h => h
    have HV := Lib.hid (And.intro hVR (And.intro hVM (And.intro htt hlen)))
    obtain ⟨-, -, c2, -⟩ := hZR.cells
    have f2 := hZR.free.2.2.1
    clear hb4 o4 hR4 hlen hZR htZ hVR htV hVM htt
    go_upto_region 6 with fail
    rw [← hV]
    clear hV c2 f2
    obtain ⟨c0, c1, c2, c3, c4⟩ := HV.out.1.cells
    obtain ⟨d0, d1, d2, d3, d4⟩ := HV.out.2.1.cells
    obtain ⟨f0, f1, f2, f3, f4⟩ := HV.out.2.1.free
    have HT := Lib.hid (And.intro (st5_turns V (N + 1) (.int .i64 n) (.slice a4 (t.kept.length + t.cache.length) p4) (.slice none 0 0) (.int .i64 t.step.left) (.bool t.step.dark)) (HV.out.2.1.put (.int .i64 n) (.slice a4 (t.kept.length + t.cache.length) p4) (.slice none 0 0) (.int .i64 t.step.left) (.bool t.step.dark)))
    go_wp2_with fail
    change bodyPost _ _ _ _ _ (st5 V (N + 1) (.int .i64 n) (.slice a4 (t.kept.length + t.cache.length) p4) (.slice none 0 0) (.int .i64 t.step.left) (.bool t.step.dark))
    clear d0 d1 d2 d3 d4 f0 f1 f2 f3 f4 c0 c1 c2 c3 c4
    generalize st5 V (N + 1) (.int .i64 n) (.slice a4 (t.kept.length + t.cache.length) p4) (.slice none 0 0) (.int .i64 t.step.left) (.bool t.step.dark) = Fin at *
    obtain ⟨g0, g1, g2, g3, g4⟩ := HT.out.2.cells
    have h4f : Turns (fun k => k = N ∨ k = N + 1) Y4 Fin := (HV.out.2.2.1.mono (G := fun k => k = N ∨ k = N + 1) fun _ _ h => .inl h).trans HT.out.1 fun _ _ h => .inr h
    have hNY : N + 1 < Y.heap.size := HY.out.2.2.lt
    have hfin := (HY.out.1.trans (H4.out.1.mono (by omega))).trans (h4f.below (B := N) (by have := H4.out.1.size; omega) fun k e => by omega)
    refine bodyPost_ret (v := .tuple #[.agg #[.int .i64 n, .slice a4 (t.kept.length + t.cache.length) p4, .slice none 0 0, .int .i64 t.step.left, .bool t.step.dark], .int .i64 0]) (by simp [results, Try.results57, go_sem, g0, g1, g2, g3, g4]) rfl ⟨_, rfl, ?_, hfin⟩
    rw [HQ.out]
    refine ⟨_, _, rfl, ?_, stay_nil _ _⟩
    refine stay_own (B := Y.heap.size) ?_ HV.out.2.2.2 fun k hk => by have := HFl.out k hk; have := HY.out.1.size; have := HN.out; omega
    show World.ownsRow _ _ tDw 129 _ (t.kept ++ t.cache).length (wcells (t.kept ++ t.cache))
    rw [List.length_append, wcells_append]
    exact own_turn H4.out.2.1 h4f fun k hk h => by have := (H4.out.2.1.lt k hk).1; omega
end Ta
end Go.Proofs.Ytkfmmdiflbnhgaa
