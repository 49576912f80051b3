/-
  Layer 12's document: its lists of writes as values; appends to them; boxes of five cells, on and on.
-/
import Derived.Test.YtdodmjcbjknneaaTaLose
namespace Go.Proofs.Ytdodmjcbjknneaa
set_option maxRecDepth 100000
open Go.RowKit
namespace Ta
open Knot (Turns NewRow)
open Tr (IsElem append_rows append_none wp_rows own_turn own_below own_slice own_open addp)
abbrev tDw : TypeId := 96
abbrev tDs : TypeId := 35
theorem dwElem : ∃ i z b, IsElem Try.prog tDs tDw i z 129 b ∧ b ≤ 200 := by
  refine ⟨_, _, _, ⟨by kernel_rfl, rfl, rfl, by kernel_rfl, rfl, by kernel_rfl, by omega⟩, ?_⟩
  exact of_decide_eq_true (by kernel_rfl)
theorem zero_dw (W : World) : (zeroValue tDw).run Try.prog W = .ok (.agg (wrc 0 nul)) W := by kernel_rfl
theorem info_dw : (Try.prog.info? tDw).map (·.size) = some 129 := by kernel_rfl
theorem store_dw (W : World) (b : Nat) (j k : Int) (c c' : List UInt8) (hb : b = W.heap.size) (hc : c.length = 128) (hc' : c'.length = 128) : (storeCells ⟨b, 0, none⟩ (wrc k c').toList 0).run Try.prog (W.alloc (.cells (wrc j c) tDw)) = .ok () (W.alloc (.cells (wrc k c') tDw)) := by
  subst hb
  exact run_storeCells_new W tDw _ _ (by rw [wr_size hc']; exact info_dw) (by rw [wr_size hc, wr_size hc']) (wr_one _ _)
theorem load_dw (W : World) (g q : Nat) (k : Int) (c : List UInt8) (hc : c.length = 128) (h : W.rangeAt g q (wrc k c).toList) : (Instr.loadAt tDw (.pointer (some ⟨g, q, none⟩))).run Try.prog W = .ok (.agg (wrc k c)) W := by
  have := run_loadAt_mid (P := Try.prog) W g q tDw (wrc k c).toList _ h Try.underlying96 rfl (by rw [Array.length_toList, wr_size hc]; exact info_dw)
  rw [Array.toArray_toList] at this
  exact this
theorem dw_range {w : World} {g : Nat} {T : TypeId} {k : Int} {b : List UInt8} (h : w.heap[g]? = some (.cells (wrc k b) T (0, 0))) : w.rangeAt g 0 (wrc k b).toList := fun j v hj => by
  rw [Lib.cell_of_heap h, Nat.zero_add]
  simpa using hj
set_option maxRecDepth 100000 in
theorem one_dw (W : World) (k : Int) (c : List UInt8) (hc : c.length = 128) : (Instr.buildSlice tDs 1 #[(0, .agg (wrc k c))]).run Try.prog W = .ok (.slice (some ⟨W.heap.size, 0, none⟩) 1 1) (W.alloc (.cells (wrc k c) tDw)) := by
  obtain ⟨i, z, b, T, -⟩ := dwElem
  have hs := T.size
  obtain ⟨r, hr, h1, h2⟩ := Great.fill_dense (s := 129) (by omega) [.agg (wrc k c)] 0 ((Array.range (1 * i.size)).map (z.cells[· % z.cells.size]!)) (fun v hv => by
    rw [List.mem_singleton] at hv
    subst hv
    exact wr_size hc k) (by simp [hs])
  have e : r = wrc k c := by
    refine Array.ext_getElem? fun q => ?_
    have hq := h2 q
    by_cases hlt : q < 129
    · rw [if_pos (by simp; omega)] at hq
      have e1 : q / 129 = 0 := by omega
      have e2 : q % 129 = q := by omega
      rw [hq, e1, e2]
      rfl
    · rw [Array.getElem?_eq_none (by rw [h1]; simp [hs]; omega), Array.getElem?_eq_none (by rw [wr_size hc]; omega)]
  subst e
  exact run_buildSlice W tDs tDw 1 #[(0, .agg (wrc k c))] (wrc k c) i z T.under T.info T.zero (by rw [hs]; omega) (by rw [hs]; omega) (by rw [hs] at hr ⊢; exact hr)
theorem empty_dw (W : World) : (Instr.buildSlice tDs 0 #[]).run Try.prog W = .ok (.slice (some ⟨W.heap.size, 0, none⟩) 0 0) (W.alloc (.cells #[] tDw)) := by kernel_rfl
theorem empty_row (w : World) : (w.alloc (.cells #[] tDw)).ownsRow w.heap.size tDw 129 (.slice (some ⟨w.heap.size, 0, none⟩) 0 0) 0 [] := World.ownsRow_made w #[] 0 (Nat.le_refl _) (by unfold maxLen; omega) rfl

/-- A list of writes as a value. -/
def IsW (w : World) (v : Value) (l : List (Int × List UInt8)) : Prop := ∃ ao q, v = .slice ao l.length q ∧ Wrs w ao l ∧ (ao = none → l = [] ∧ q = 0)
section
variable {w x y : World} {v : Value} {l : List (Int × List UInt8)}
theorem IsW.below (h : IsW w v l) (hb : Below w.heap.size w x) : IsW x v l := by
  obtain ⟨ao, q, rfl, hw, h0⟩ := h
  exact ⟨ao, q, rfl, hw.below hb, h0⟩
theorem isW_nil (w : World) : IsW w (.slice none 0 0) [] := ⟨none, 0, rfl, ⟨by simp, fun p hp => by simp at hp, fun h => absurd rfl h⟩, fun _ => ⟨rfl, rfl⟩⟩
theorem IsW.len (h : IsW w v l) : ∀ p ∈ l, p.2.length = 128 := by
  obtain ⟨ao, q, rfl, hw, -⟩ := h
  exact hw.len
theorem IsW.slice (h : IsW w v l) : ∃ ao q, v = .slice ao l.length q := by
  obtain ⟨ao, q, rfl, -⟩ := h
  exact ⟨ao, q, rfl⟩
theorem wrs_cells {g o : Nat} {l : List (Int × List UInt8)} (h : Wrs w (some ⟨g, o, none⟩) l) (j : Nat) (u : Value) (hu : (wcells l)[j]? = some u) : w.cell? ((⟨g, o, none⟩ : Addr).add j) = some u := by
  have hj := (List.getElem?_eq_some_iff.1 hu).1
  rw [wcells_len h.len] at hj
  have hk : j / 129 < l.length := by omega
  obtain ⟨g', o', e, hc⟩ := h.row (fun e => by rw [e] at hk; simp at hk)
  obtain ⟨rfl, rfl⟩ : g = g' ∧ o = o' := by simpa using e
  obtain ⟨h1, h2⟩ := hc (j / 129) hk
  have e1 : j = j / 129 * 129 + j % 129 := by omega
  have hu' := hu
  rw [e1, wcells_at h.len hk (by omega)] at hu'
  rw [addp]
  cases hm : j % 129 with
  | zero =>
    rw [hm] at hu'
    have : o + j = o + j / 129 * 129 := by omega
    rw [this, h1]
    exact hu'
  | succ m =>
    rw [hm, List.getElem?_cons_succ] at hu'
    have : o + j = o + j / 129 * 129 + 1 + m := by omega
    rw [this]
    exact h2 m u hu'
/-- A list of writes behind a row of writes. -/
theorem app_dw {B n : Nat} {r : Value} {xs : List Value} (hown : w.ownsRow B tDw 129 r n xs) (hB : B ≤ w.heap.size) (h : IsW w v l) (ty : TypeId) (hz : n + l.length ≤ 1000000) :
    ∃ r' y, (Builtin.append_ #[tDs, tDs] ty #[r, v]).run Try.prog w = .ok r' y ∧ y.ownsRow B tDw 129 r' (n + l.length) (xs ++ wcells l) ∧ w.grownBy y r.ownBlock ∧ NewRow w r r' := by
  obtain ⟨i, z, b, T, hb⟩ := dwElem
  obtain ⟨ao, q, rfl, hw, h0⟩ := h
  cases ao with
  | none =>
    obtain ⟨rfl, rfl⟩ := h0 rfl
    refine ⟨r, w, append_none T ty hown (by omega), ?_, ⟨rfl, rfl, rfl, Nat.le_refl _, fun _ _ _ => rfl⟩, NewRow.refl _ _⟩
    simpa [wcells] using hown
  | some a =>
    by_cases hl : l = []
    · subst hl
      exact append_rows T ty hown hB (m := 0) (news := []) rfl (fun j u hj => by simp at hj) (fun u hu => by simp at hu) (by omega) (Nat.le_trans (Nat.mul_le_mul_left _ hb) (by simp at hz; omega))
    · obtain ⟨g, o, e, -⟩ := hw.row hl
      obtain rfl := Option.some.inj e
      exact append_rows T ty hown hB (m := l.length) (news := wcells l) (wcells_len hw.len) (wrs_cells hw) (one_writes l) (by omega) (Nat.le_trans (Nat.mul_le_mul_left _ hb) (by omega))
theorem wp_app {ops : Go.Act → World → Prop} {Q : Exit → Go.Act → World → Prop} {o : Oper} {a : Go.Act} {B n : Nat} {r : Value} {xs : List Value} (s q : Operand) (ho : o.op = .call { callee := .builtin .append, args := #[s, q], argTypes := #[tDs, tDs] })
    (hs : a.eval s = r) (hq : a.eval q = v) (hown : w.ownsRow B tDw 129 r n xs) (hB : B ≤ w.heap.size) (h : IsW w v l) (hz : n + l.length ≤ 1000000)
    (hK : ∀ r' y, y.ownsRow B tDw 129 r' (n + l.length) (xs ++ wcells l) → w.grownBy y r.ownBlock → NewRow w r r' → ops (a.put o.dst r') y) : o.wp Try.prog a w ops Q := by
  obtain ⟨r', y, hr, h2, h3, h4⟩ := app_dw hown hB h o.type hz
  unfold Oper.wp execOp
  simp only [ho, resolve, invoke, builtin, Sem.run_bind, Sem.run_pure, Result.andThen_ok, List.map_toArray, List.map_cons, List.map_nil, hs, hq, hr]
  exact hK r' y h2 h3 h4
/-- A row of writes that is owned, as a list of writes. -/
theorem own_isW {B : Nat} (h : w.ownsRow B tDw 129 v l.length (wcells l)) (hl : ∀ p ∈ l, p.2.length = 128) : IsW w v l := by
  rcases h.2 with ⟨rfl, h0⟩ | ⟨g, cap, cur, rfl, hb, hg, hn, hc, hs, ht⟩
  · obtain rfl : l = [] := List.eq_nil_of_length_eq_zero h0
    exact isW_nil w
  · refine ⟨some ⟨g, 0, none⟩, cap, rfl, ⟨Nat.le_trans hn (Nat.le_trans hc (by decide)), hl, fun _ => ⟨g, 0, rfl, fun i hi => ?_⟩⟩, fun e => by cases e⟩
    have hr : w.ownsRow B tDw 129 (.slice (some ⟨g, 0, none⟩) l.length cap) l.length (wcells l) := ⟨h.1, .inr ⟨g, cap, cur, rfl, hb, hg, hn, hc, hs, ht⟩⟩
    refine ⟨?_, fun j u hu => ?_⟩
    · have := wcells_at hl hi (j := 0) (by omega)
      rw [Nat.add_zero] at this
      rw [Nat.zero_add, hr.cellAt _ (by omega), this]
      rfl
    · have hj : j < 128 := by
        have := (List.getElem?_eq_some_iff.1 hu).1
        rw [Lib.byteCells_length, hl _ (List.getElem_mem hi)] at this
        exact this
      rw [Nat.zero_add, hr.cellAt _ (by omega), show i * 129 + 1 + j = i * 129 + (1 + j) by omega, wcells_at hl hi (by omega), Nat.add_comm 1 j, List.getElem?_cons_succ]
      exact hu
/-- A write as a list of one. -/
theorem lit_isW {g : Nat} {k : Int} {b : List UInt8} (h : w.heap[g]? = some (.cells (wrc k b) tDw (0, 0))) (hb : b.length = 128) : IsW w (.slice (some ⟨g, 0, none⟩) 1 1) [(k, b)] := by
  have := own_isW (w := w) (v := .slice (some ⟨g, 0, none⟩) 1 1) (l := [(k, b)]) (B := 0) ⟨by simp [wcells, Lib.byteCells_length, hb], .inr ⟨g, 1, wrc k b, rfl, Nat.zero_le _, h, Nat.le_refl _, by decide, wr_size hb k, by
    have e : (wrc k b).toList = wcells [(k, b)] := by simp [wrc, wcells]
    rw [e]
    exact List.take_of_length_le (by simp [wcells, Lib.byteCells_length, hb])⟩⟩ (fun p hp => by rw [List.mem_singleton] at hp; rw [hp]; exact hb)
  exact this

/-- The document's tray as a value, whatever of the blocks in F turns. -/
def IsD (F : Nat → Prop) (w : World) (v : Value) (n : Int) (t : Tray (List UInt8)) : Prop := ∃ kv cv, v = trV n kv cv t.left t.dark ∧ Stay F w (fun x => IsW x kv t.kept) ∧ Stay F w (fun x => IsW x cv t.cache)
theorem IsD.below {F : Nat → Prop} {n : Int} {t : Tray (List UInt8)} (h : IsD F w v n t) (hb : Below w.heap.size w x) : IsD F x v n t := by
  obtain ⟨kv, cv, rfl, h1, h2⟩ := h
  exact ⟨kv, cv, rfl, h1.below hb, h2.below hb⟩
theorem IsD.more {F : Nat → Prop} {n : Int} {t : Tray (List UInt8)} (h : IsD F w v n t) (ht : Turns F w x) : IsD (Grow F w x) x v n t := by
  obtain ⟨kv, cv, rfl, h1, h2⟩ := h
  exact ⟨kv, cv, rfl, h1.more ht, h2.more ht⟩
theorem stay_own {F : Nat → Prop} {B : Nat} (h : w.ownsRow B tDw 129 v l.length (wcells l)) (hl : ∀ p ∈ l, p.2.length = 128) (hF : ∀ k, F k → k < B) : Stay F w (fun x => IsW x v l) := fun z hz =>
  own_isW (own_turn h hz fun k hk hf => by have := (h.lt k hk).1; have := hF k hf; omega) hl
theorem stay_nil (F : Nat → Prop) (w : World) : Stay F w (fun x => IsW x (.slice none 0 0) []) := fun z _ => isW_nil z
section
variable {R : Nat} {T : TypeId} {a b c d e a' b' c' d' e' : Value}
theorem C5.on (h : C5 R T a b c d e x) (hb : Below x.heap.size x y) : C5 R T a b c d e y := (hb.block R (Array.getElem?_eq_some_iff.1 h).1).trans h
theorem C5.turn {F : Nat → Prop} (h : C5 R T a b c d e x) (ht : Turns F x y) (hF : ¬ F R) : C5 R T a b c d e y := ht.heap h hF
theorem C5.lt (h : C5 R T a b c d e x) : R < x.heap.size := (Array.getElem?_eq_some_iff.1 h).1
theorem C5.put (h : C5 R T a b c d e x) (a' b' c' d' e' : Value) : C5 R T a' b' c' d' e' (st5 x R a' b' c' d' e') := by
  have h0 := heap_setCell_same x R 0 _ T a' h
  have h1 := heap_setCell_same _ R 1 _ T b' h0
  have h2 := heap_setCell_same _ R 2 _ T c' h1
  have h3 := heap_setCell_same _ R 3 _ T d' h2
  exact heap_setCell_same _ R 4 _ T e' h3
theorem st5_turns (x : World) (R : Nat) (a b c d e : Value) : Turns (fun k => k = R) x (st5 x R a b c d e) :=
  (((((Turns.refl (fun k => k = R) x).setCell (p := ⟨R, 0, none⟩) rfl a).setCell (p := ⟨R, 1, none⟩) rfl b).setCell (p := ⟨R, 2, none⟩) rfl c).setCell (p := ⟨R, 3, none⟩) rfl d).setCell (p := ⟨R, 4, none⟩) rfl e
theorem C5.set (h : C5 R T a b c d e x) (j : Nat) (v : Value) : (x.setCell ⟨R, j, none⟩ v).heap[R]? = some (.cells (#[a, b, c, d, e].setIfInBounds j v) T (0, 0)) := heap_setCell_same x R j _ T v h
end
end
end Ta
end Go.Proofs.Ytdodmjcbjknneaa
