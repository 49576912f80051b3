/-
  Layer 12's document: Put.
-/
import Derived.Test.YtdodmjcbjknneaaTaDlose
namespace Go.Proofs.Ytdodmjcbjknneaa
set_option maxRecDepth 100000
open Go.RowKit
namespace Ta
open Knot (Turns NewRow)
open Tr (IsElem append_rows wp_rows own_turn own_below own_slice own_open addp)
/-- The first bytes, and noughts behind. -/
def part (b : List UInt8) (i : Nat) : List UInt8 := b.take i ++ List.replicate (128 - i) 0
theorem part_zero (b : List UInt8) : part b 0 = nul := by simp [part, nul]
theorem part_end (b : List UInt8) : part b b.length = pad b := by simp [part, pad]
theorem part_len {b : List UInt8} {i : Nat} (h : i ≤ b.length) (hb : b.length ≤ 128) : (part b i).length = 128 := by simp [part]; omega
theorem part_step {b : List UInt8} {i : Nat} (h : i < b.length) (hb : b.length ≤ 128) : (part b i).set i b[i] = part b (i + 1) := by
  unfold part
  obtain ⟨m, hm⟩ : ∃ m, 128 - i = m + 1 := ⟨127 - i, by omega⟩
  rw [hm, List.replicate_succ, List.set_append_right _ _ (by simp; omega), List.take_succ_eq_append_getElem h, List.append_assoc]
  have : i - (b.take i).length = 0 := by simp; omega
  rw [this, List.set_cons_zero, show 128 - (i + 1) = m by omega]
  rfl
theorem wrc_set (k : Int) (c : List UInt8) (i : Nat) (u : UInt8) : (wrc k c).setIfInBounds (1 + i) (.int .u8 (u.toNat : Nat)) = wrc k (c.set i u) := by
  refine Array.toList_inj.1 ?_
  simp only [wrc, Array.toList_setIfInBounds, Nat.add_comm 1 i, List.set_cons_succ, Lib.byteCells, List.map_set]
theorem byte_at {w : World} {v : Value} {b : List UInt8} (h : IsBytes w v b) {i : Nat} (hi : i < b.length) : ∃ g q, (∀ W, (Instr.indexAt 22 v (.int .i64 (i : Int))).run Try.prog W = .ok (.pointer (some ⟨g, q, none⟩)) W) ∧ w.cell? ⟨g, q, none⟩ = some (.int .u8 (b[i].toNat : Nat)) := by
  obtain ⟨ao, cap, rfl, h1, h2, h3⟩ := h
  obtain ⟨g, o, rfl, hc⟩ := h3 (by omega)
  refine ⟨g, o + i, fun W => ?_, hc i _ (by simp [Lib.byteCells, hi])⟩
  have hz : ∀ w, (sizeOf (Try.prog.elem 22)).run Try.prog w = .ok 1 w := fun w => by kernel_rfl
  have : b.length ≤ 9223372036854775807 := Nat.le_trans h1 (Nat.le_trans h2 (by decide))
  rw [run_indexAt_slice W _ _ _ _ _ _ Try.underlying22, if_pos ⟨by omega, by omega⟩, hz]
  have e : ((i : Int)).toNat = i := by omega
  simp only [Result.andThen_ok, e, Addr.add_lit, Nat.mul_one]
theorem arr_at (g i : Nat) (h : i < 128) (W : World) : (Instr.indexAt 64 (.pointer (some ⟨g, 1, none⟩)) (.int .i64 (i : Int))).run Try.prog W = .ok (.pointer (some ⟨g, 1 + i, none⟩)) W := by
  have hz : ∀ w, (sizeOf (Try.prog.elem 64)).run Try.prog w = .ok 1 w := fun w => by kernel_rfl
  have hn : Try.prog.arrayLen 64 = 128 := by kernel_rfl
  rw [run_indexAt_array W _ _ _ _ Try.underlying64, hn, if_pos ⟨by omega, by omega⟩, hz]
  have e : ((i : Int)).toNat = i := by omega
  simp only [Result.andThen_ok, e, Addr.add_lit, Nat.mul_one]

set_option maxHeartbeats 16000000 in
set_option maxRecDepth 100000 in
theorem dput_any (F : Nat → Prop) (n : Nat) (v : Value) (t : Tray (List UInt8)) (k : Int) (bv : Value) (b : List UInt8) (w : World) (hF0 : ∀ k, F k → k < w.heap.size) (h : IsD F w v n t) (hb : IsBytes w bv b) (hl : -1 ≤ t.left ∧ t.left ≤ 1099511627776) (hz : t.kept.length + t.cache.length ≤ 100000) :
    Calls Try.prog 31 #[v, .int .i64 k, bv] w fun e x => ∃ v', e = .returned (.tuple #[v', .int .i64 (t.write n k b).2]) ∧ IsD F x v' n (t.write n k b).1 ∧ Below w.heap.size w x := by
  obtain ⟨kv, cv, rfl, hk, hc⟩ := h
  obtain ⟨ka, kq, rfl⟩ := hk.now.slice
  obtain ⟨co, cq, rfl⟩ := hc.now.slice
  have HBs := Lib.hid hb
  obtain ⟨bo, bq, rfl, hb1, hb2, -⟩ := hb
  have hbl : b.length ≤ 9223372036854775807 := Nat.le_trans hb1 (Nat.le_trans hb2 (by decide))
  have HKC := Lib.hid (And.intro hk (And.intro hc hz))
  have HF0 := Lib.hid hF0
  clear hF0
  obtain ⟨ok, hok⟩ : ∃ ok : Bool, ok = decide (t.left ≠ 0) := ⟨_, rfl⟩
  have HS := Lib.hid (fun W => dstep_any n (.slice ka t.kept.length kq) (.slice co t.cache.length cq) t ⟨_, _, _, rfl⟩ ⟨_, _, _, rfl⟩ hl ok hok W)
  have HOk := Lib.hid hok
  obtain ⟨X, hX⟩ : ∃ X, X = (w.alloc (.cells #[.int .i64 n, .slice ka t.kept.length kq, .slice co t.cache.length cq, .int .i64 t.left, .bool t.dark] tTr)).alloc (.cells #[.int .i64 0, .slice none 0 0, .slice none 0 0, .int .i64 0, .bool false] tTr) := ⟨_, rfl⟩
  have h2 := two5 w (.cells #[.int .i64 n, .slice ka t.kept.length kq, .slice co t.cache.length cq, .int .i64 t.left, .bool t.dark] tTr) tTr (.int .i64 0) (.slice none 0 0) (.slice none 0 0) (.int .i64 0) (.bool false)
  have hR : C5 w.heap.size tTr (.int .i64 n) (.slice ka t.kept.length kq) (.slice co t.cache.length cq) (.int .i64 t.left) (.bool t.dark) X := by
    rw [hX]
    exact C5.on (x := w.alloc _) (heap_alloc_new w _) ((Below.refl _ _).alloc (Nat.le_refl _) _)
  rw [← hX] at h2
  have HX := Lib.hid (And.intro h2.2 (And.intro hR h2.1))
  unfold trV at HS
  clear hk hc hl hz hR h2 hb1 hb2 hok
  by_cases hr : k < 0 ∨ n ≤ k ∨ 128 < b.length
  · have HWr := Lib.hid (show t.write n k b = (t, 1) by unfold Tray.write; rw [if_pos hr])
    have key : ∀ (g1 : (k < 0) ∨ ((¬ k < 0) ∧ (n : Int) ≤ k) ∨ ((¬ k < 0) ∧ (¬ (n : Int) ≤ k) ∧ (128 : Int) < (b.length : Int))), True := fun _ => trivial
    clear key
    by_cases h0 : k < 0
    · clear hr
      go_enter Try.func31, Try.ntmps31
      unfold trV
      go_upto_region 1 with fail
      rw [← hX]
      clear hX
      obtain ⟨c0, c1, c2, c3, c4⟩ := HX.out.2.1.cells
      obtain ⟨d0, d1, d2, d3, d4⟩ := HX.out.2.2.cells
      obtain ⟨f0, f1, f2, f3, f4⟩ := HX.out.2.2.free
      have HT := Lib.hid (And.intro (st5_turns X (w.heap.size + 1) (.int .i64 (n : Int)) (.slice ka t.kept.length kq) (.slice co t.cache.length cq) (.int .i64 t.left) (.bool t.dark)) (HX.out.2.2.put (.int .i64 (n : Int)) (.slice ka t.kept.length kq) (.slice co t.cache.length cq) (.int .i64 t.left) (.bool t.dark)))
      go_wp2_with fail
      change bodyPost _ _ _ _ _ (st5 X (w.heap.size + 1) (.int .i64 (n : Int)) (.slice ka t.kept.length kq) (.slice co t.cache.length cq) (.int .i64 t.left) (.bool t.dark))
      clear c0 c1 c2 c3 c4 d0 d1 d2 d3 d4 f0 f1 f2 f3 f4
      generalize st5 X (w.heap.size + 1) (.int .i64 (n : Int)) (.slice ka t.kept.length kq) (.slice co t.cache.length cq) (.int .i64 t.left) (.bool t.dark) = Fin at *
      obtain ⟨g0, g1, g2, g3, g4⟩ := HT.out.2.cells
      have hfin : Below w.heap.size w Fin := (HX.out.1).trans (HT.out.1.below (B := w.heap.size) ((HX.out.1).size) fun k e => by omega)
      refine bodyPost_ret (v := .tuple #[.agg #[.int .i64 (n : Int), .slice ka t.kept.length kq, .slice co t.cache.length cq, .int .i64 t.left, .bool t.dark], .int .i64 1]) (by simp [results, Try.results31, go_sem, g0, g1, g2, g3, g4]) rfl ⟨_, by rw [HWr.out], ?_, hfin⟩
      rw [HWr.out]
      exact ⟨_, _, rfl, HKC.out.1.below hfin, HKC.out.2.1.below hfin⟩
    · by_cases h1 : (n : Int) ≤ k
      · clear hr
        go_enter Try.func31, Try.ntmps31
        unfold trV
        go_upto_region 1 with fail
        rw [← hX]
        clear hX
        obtain ⟨c0, c1, c2, c3, c4⟩ := HX.out.2.1.cells
        obtain ⟨d0, d1, d2, d3, d4⟩ := HX.out.2.2.cells
        obtain ⟨f0, f1, f2, f3, f4⟩ := HX.out.2.2.free
        have HT := Lib.hid (And.intro (st5_turns X (w.heap.size + 1) (.int .i64 (n : Int)) (.slice ka t.kept.length kq) (.slice co t.cache.length cq) (.int .i64 t.left) (.bool t.dark)) (HX.out.2.2.put (.int .i64 (n : Int)) (.slice ka t.kept.length kq) (.slice co t.cache.length cq) (.int .i64 t.left) (.bool t.dark)))
        go_wp2_with fail
        change bodyPost _ _ _ _ _ (st5 X (w.heap.size + 1) (.int .i64 (n : Int)) (.slice ka t.kept.length kq) (.slice co t.cache.length cq) (.int .i64 t.left) (.bool t.dark))
        clear c0 c1 c2 c3 c4 d0 d1 d2 d3 d4 f0 f1 f2 f3 f4
        generalize st5 X (w.heap.size + 1) (.int .i64 (n : Int)) (.slice ka t.kept.length kq) (.slice co t.cache.length cq) (.int .i64 t.left) (.bool t.dark) = Fin at *
        obtain ⟨g0, g1, g2, g3, g4⟩ := HT.out.2.cells
        have hfin : Below w.heap.size w Fin := (HX.out.1).trans (HT.out.1.below (B := w.heap.size) ((HX.out.1).size) fun k e => by omega)
        refine bodyPost_ret (v := .tuple #[.agg #[.int .i64 (n : Int), .slice ka t.kept.length kq, .slice co t.cache.length cq, .int .i64 t.left, .bool t.dark], .int .i64 1]) (by simp [results, Try.results31, go_sem, g0, g1, g2, g3, g4]) rfl ⟨_, by rw [HWr.out], ?_, hfin⟩
        rw [HWr.out]
        exact ⟨_, _, rfl, HKC.out.1.below hfin, HKC.out.2.1.below hfin⟩
      · have h3 : (128 : Int) < (b.length : Int) := by omega
        clear hr
        go_enter Try.func31, Try.ntmps31
        unfold trV
        go_upto_region 1 with fail
        rw [← hX]
        clear hX
        obtain ⟨c0, c1, c2, c3, c4⟩ := HX.out.2.1.cells
        obtain ⟨d0, d1, d2, d3, d4⟩ := HX.out.2.2.cells
        obtain ⟨f0, f1, f2, f3, f4⟩ := HX.out.2.2.free
        have HT := Lib.hid (And.intro (st5_turns X (w.heap.size + 1) (.int .i64 (n : Int)) (.slice ka t.kept.length kq) (.slice co t.cache.length cq) (.int .i64 t.left) (.bool t.dark)) (HX.out.2.2.put (.int .i64 (n : Int)) (.slice ka t.kept.length kq) (.slice co t.cache.length cq) (.int .i64 t.left) (.bool t.dark)))
        go_wp2_with fail
        change bodyPost _ _ _ _ _ (st5 X (w.heap.size + 1) (.int .i64 (n : Int)) (.slice ka t.kept.length kq) (.slice co t.cache.length cq) (.int .i64 t.left) (.bool t.dark))
        clear c0 c1 c2 c3 c4 d0 d1 d2 d3 d4 f0 f1 f2 f3 f4
        generalize st5 X (w.heap.size + 1) (.int .i64 (n : Int)) (.slice ka t.kept.length kq) (.slice co t.cache.length cq) (.int .i64 t.left) (.bool t.dark) = Fin at *
        obtain ⟨g0, g1, g2, g3, g4⟩ := HT.out.2.cells
        have hfin : Below w.heap.size w Fin := (HX.out.1).trans (HT.out.1.below (B := w.heap.size) ((HX.out.1).size) fun k e => by omega)
        refine bodyPost_ret (v := .tuple #[.agg #[.int .i64 (n : Int), .slice ka t.kept.length kq, .slice co t.cache.length cq, .int .i64 t.left, .bool t.dark], .int .i64 1]) (by simp [results, Try.results31, go_sem, g0, g1, g2, g3, g4]) rfl ⟨_, by rw [HWr.out], ?_, hfin⟩
        rw [HWr.out]
        exact ⟨_, _, rfl, HKC.out.1.below hfin, HKC.out.2.1.below hfin⟩
  · have h0 : ¬ k < 0 := by omega
    have h1 : ¬ (n : Int) ≤ k := by omega
    have h3 : ¬ (128 : Int) < (b.length : Int) := by omega
    have HPad := Lib.hid (pad_len (b := b) (by omega))
    have HRg := Lib.hid hr
    clear hr
    go_enter Try.func31, Try.ntmps31
    unfold trV
    go_upto_region 1 with fail
    rw [← hX]
    clear hX
    obtain ⟨c0, c1, c2, c3, c4⟩ := HX.out.2.1.cells
    go_wp2_with fail
    refine (HS.out X).mono ?_
    rintro e x1 ⟨rfl, hb1⟩
    clear c0 c1 c2 c3 c4
    have hR1 := HX.out.2.1.on hb1
    obtain ⟨c0, c1, c2, c3, c4⟩ := hR1.cells
    obtain ⟨f0, f1, f2, f3, f4⟩ := hR1.free
    have HY := Lib.hid (show Below w.heap.size w (st5 x1 w.heap.size (.int .i64 (n : Int)) (.slice ka t.kept.length kq) (.slice co t.cache.length cq) (.int .i64 t.step.left) (.bool t.step.dark)) ∧ C5 w.heap.size tTr (.int .i64 (n : Int)) (.slice ka t.kept.length kq) (.slice co t.cache.length cq) (.int .i64 t.step.left) (.bool t.step.dark) (st5 x1 w.heap.size (.int .i64 (n : Int)) (.slice ka t.kept.length kq) (.slice co t.cache.length cq) (.int .i64 t.step.left) (.bool t.step.dark)) ∧ C5 (w.heap.size + 1) tTr (.int .i64 0) (.slice none 0 0) (.slice none 0 0) (.int .i64 0) (.bool false) (st5 x1 w.heap.size (.int .i64 (n : Int)) (.slice ka t.kept.length kq) (.slice co t.cache.length cq) (.int .i64 t.step.left) (.bool t.step.dark)) from by
      have ht := st5_turns x1 w.heap.size (.int .i64 (n : Int)) (.slice ka t.kept.length kq) (.slice co t.cache.length cq) (.int .i64 t.step.left) (.bool t.step.dark)
      have hz := HX.out.1.size
      have hz1 := hb1.size
      exact ⟨(HX.out.1.trans (hb1.mono hz)).trans (ht.below (B := w.heap.size) (by omega) fun k e => by omega), hR1.put _ _ _ _ _, (HX.out.2.2.on hb1).turn ht (by omega)⟩)
    clear hR1 hb1 HX HS
    go_upto_region 4 with fail
    clear c0 c1 c2 c3 c4 f0 f1 f2 f3 f4
    change Code.wp _ _ _ _ (st5 x1 w.heap.size (.int .i64 (n : Int)) (.slice ka t.kept.length kq) (.slice co t.cache.length cq) (.int .i64 t.step.left) (.bool t.step.dark))
    generalize st5 x1 w.heap.size (.int .i64 (n : Int)) (.slice ka t.kept.length kq) (.slice co t.cache.length cq) (.int .i64 t.step.left) (.bool t.step.dark) = Y at *
    by_cases hleft : t.left = 0
    · obtain rfl : ok = false := by rw [HOk.out]; simp [hleft]
      have HWr := Lib.hid (show t.write n k b = (t.step, 20) by unfold Tray.write Tray.step; rw [if_neg HRg.out, if_pos hleft, if_pos hleft])
      have HQ := Lib.hid (step_parts t)
      clear hleft HOk
      obtain ⟨c0, c1, c2, c3, c4⟩ := HY.out.2.1.cells
      obtain ⟨d0, d1, d2, d3, d4⟩ := HY.out.2.2.cells
      obtain ⟨f0, f1, f2, f3, f4⟩ := HY.out.2.2.free
      have HT := Lib.hid (And.intro (st5_turns Y (w.heap.size + 1) (.int .i64 (n : Int)) (.slice ka t.kept.length kq) (.slice co t.cache.length cq) (.int .i64 t.step.left) (.bool t.step.dark)) (HY.out.2.2.put (.int .i64 (n : Int)) (.slice ka t.kept.length kq) (.slice co t.cache.length cq) (.int .i64 t.step.left) (.bool t.step.dark)))
      go_wp2_with fail
      change bodyPost _ _ _ _ _ (st5 Y (w.heap.size + 1) (.int .i64 (n : Int)) (.slice ka t.kept.length kq) (.slice co t.cache.length cq) (.int .i64 t.step.left) (.bool t.step.dark))
      clear c0 c1 c2 c3 c4 d0 d1 d2 d3 d4 f0 f1 f2 f3 f4
      generalize st5 Y (w.heap.size + 1) (.int .i64 (n : Int)) (.slice ka t.kept.length kq) (.slice co t.cache.length cq) (.int .i64 t.step.left) (.bool t.step.dark) = Fin at *
      obtain ⟨g0, g1, g2, g3, g4⟩ := HT.out.2.cells
      have hfin : Below w.heap.size w Fin := (HY.out.1).trans (HT.out.1.below (B := w.heap.size) ((HY.out.1).size) fun k e => by omega)
      refine bodyPost_ret (v := .tuple #[.agg #[.int .i64 (n : Int), .slice ka t.kept.length kq, .slice co t.cache.length cq, .int .i64 t.step.left, .bool t.step.dark], .int .i64 20]) (by simp [results, Try.results31, go_sem, g0, g1, g2, g3, g4]) rfl ⟨_, by rw [HWr.out], ?_, hfin⟩
      rw [HWr.out]
      refine ⟨_, _, rfl, ?_, ?_⟩
      · rw [HQ.out.1]
        exact HKC.out.1.below hfin
      · rw [HQ.out.2]
        exact HKC.out.2.1.below hfin
    · obtain rfl : ok = true := by rw [HOk.out]; simp [hleft]
      have HWr := Lib.hid (show t.write n k b = ({ t.step with cache := t.step.cache ++ [(k, pad b)] }, 0) by unfold Tray.write Tray.step Tray.put; rw [if_neg HRg.out, if_neg hleft, if_neg hleft, if_neg hleft]; rfl)
      have HQ := Lib.hid (step_parts t)
      clear hleft HOk
      have hz := zero_dw
      have hs0 := wr_size (b := nul) rfl 0
      have hsk := wr_size (b := nul) rfl k
      have hw1 : (wrc 0 nul).setIfInBounds 0 (.int .i64 k) = wrc k nul := by simp [wrc]
      have hw2 : (wrc 0 nul).toList.set 0 (.int .i64 k) = (wrc k nul).toList := by simp [wrc]
      have hw3 : ¬ wrc 0 nul = #[] := fun e => by rw [e] at hs0; cases hs0
      have hst := store_dw Y Y.heap.size 0 k nul nul rfl rfl rfl
      obtain ⟨G, hG⟩ : ∃ G, G = Y.alloc (.cells (wrc k nul) tDw) := ⟨_, rfl⟩
      have hGb : Below Y.heap.size Y G := by rw [hG]; exact (Below.refl _ _).alloc (Nat.le_refl _) _
      have hGn : G.heap[Y.heap.size]? = some (.cells (wrc k nul) tDw (0, 0)) := by rw [hG]; exact heap_alloc_new Y _
      have HG := Lib.hid (And.intro hGb hGn)
      clear hGb hGn
      go_upto_region 7 with fail
      rw [← hG]
      clear hG hz hs0 hsk hw1 hw2 hw3 hst
      generalize hDB : Y.heap.size = DB at *
      have HDB := Lib.hid hDB
      clear hDB
      go_wp2_with fail
      go_loopw [37] (fun vi y => ∃ i : Nat, i ≤ b.length ∧ vi = .int .i64 (i : Int) ∧ Hid (Turns (fun k => k = DB) G y ∧ y.heap[DB]? = some (.cells (wrc k (part b i)) tDw (0, 0)))) (fun vi _ => b.length - (intOf vi).toNat)
      case atStart => exact ⟨0, by omega, rfl, ⟨Turns.refl _ _, by rw [part_zero]; exact HG.out.2⟩⟩
      case round =>
        obtain ⟨i, hi, rfl, HI⟩ := hrel
        by_cases hlt : i < b.length
        · have hDBw : w.heap.size < DB := by rw [← HDB.out]; have := HY.out.2.2.lt; omega
          have hDBG : DB < G.heap.size := (Array.getElem?_eq_some_iff.1 HG.out.2).1
          have hbw : Below w.heap.size w wr := ((HY.out.1.trans (HG.out.1.mono (by rw [← HDB.out]; exact HY.out.1.size))).trans (HI.out.1.below (B := w.heap.size) (by omega) fun k e => by omega))
          obtain ⟨g, q, hix, hcell⟩ := byte_at HBs.out hlt
          have hcx := (hbw.cell (World.block_lt_of_cell? w _ hcell)).trans hcell
          have hxa := arr_at DB i (by omega)
          have hpl := part_len (b := b) (i := i) (by omega) (by omega)
          obtain ⟨old, hold⟩ : ∃ old, wr.cell? ⟨DB, 1 + i, none⟩ = some old := by
            rw [Lib.cell_of_heap HI.out.2]
            have hs := wr_size hpl k
            exact ⟨(wrc k (part b i))[1 + i]'(by rw [hs]; omega), Array.getElem?_eq_getElem _⟩
          have hfr : wr.frozen? ⟨DB, 1 + i, none⟩ = false := Lib.frozen_of_heap HI.out.2 _
          have hset := heap_setCell_same wr DB (1 + i) _ tDw (.int .u8 (b[i].toNat : Nat)) HI.out.2
          rw [wrc_set, part_step hlt (by omega)] at hset
          have htn : Turns (fun k => k = DB) G (wr.setCell ⟨DB, 1 + i, none⟩ (.int .u8 (b[i].toNat : Nat))) := HI.out.1.setCell (p := ⟨DB, 1 + i, none⟩) rfl _
          have HN := Lib.hid (And.intro htn hset)
          generalize b[i] = u at *
          clear hDBw hDBG hbw hcell hpl hset htn
          go_wp2_with fail
          go_roundw
          case rel => exact ⟨i + 1, by omega, by go_num, HN.out⟩
          case measure => simp [intOf]; omega
        · have hne : ¬ (i : Int) < (b.length : Int) := by omega
          have hib : i = b.length := by omega
          subst hib
          rw [part_end] at HI
          obtain ⟨M, hM⟩ : ∃ M, M = wr := ⟨_, rfl⟩
          have HM := Lib.hid (show Below w.heap.size w M ∧ C5 w.heap.size tTr (.int .i64 (n : Int)) (.slice ka t.kept.length kq) (.slice co t.cache.length cq) (.int .i64 t.step.left) (.bool t.step.dark) M ∧ C5 (w.heap.size + 1) tTr (.int .i64 0) (.slice none 0 0) (.slice none 0 0) (.int .i64 0) (.bool false) M from by
            have h1 := HY.out.2.2.lt
            have h2 := HDB.out
            have h3 := HY.out.1.size
            have h4 := HG.out.1.size
            have hg1 : Below Y.heap.size Y G := by rw [h2]; exact HG.out.1
            rw [hM]
            exact ⟨(HY.out.1.trans (hg1.mono h3)).trans (HI.out.1.below (B := w.heap.size) (by omega) fun k e => by omega), (HY.out.2.1.on hg1).turn HI.out.1 (by omega), (HY.out.2.2.on hg1).turn HI.out.1 (by omega)⟩)
          have HMD := Lib.hid (show M.heap[DB]? = some (.cells (wrc k (pad b)) tDw (0, 0)) by rw [hM]; exact HI.out.2)
          have HF := Lib.hid (show ∀ x, Below M.heap.size M x → x.cell? ⟨w.heap.size, 2, none⟩ = some (.slice co t.cache.length cq) ∧ (Instr.loadAt tDw (.pointer (some ⟨DB, 0, none⟩))).run Try.prog x = .ok (.agg (wrc k (pad b))) x from fun x hx =>
            ⟨(HM.out.2.1.on hx).cells.2.2.1, load_dw x DB 0 k (pad b) HPad.out (dw_range ((hx.block DB (Array.getElem?_eq_some_iff.1 HMD.out).1).trans HMD.out))⟩)
          rw [← hM]
          clear hM hlt
          go_wp2_with fail
          go_cut [54] (fun _ wx => ∃ (a6 : Option Addr) (p6 : Nat), Hid (C5 w.heap.size tTr (.int .i64 (n : Int)) (.slice ka t.kept.length kq) (.slice a6 (t.cache.length + 1) p6) (.int .i64 t.step.left) (.bool t.step.dark) wx ∧ C5 (w.heap.size + 1) tTr (.int .i64 0) (.slice none 0 0) (.slice none 0 0) (.int .i64 0) (.bool false) wx ∧ wx.ownsRow M.heap.size tDw 129 (.slice a6 (t.cache.length + 1) p6) (t.cache.length + 1) (wcells (t.cache ++ [(k, pad b)])) ∧ Below w.heap.size w wx))
          case first =>
            refine Order.beginE (fun x => Below M.heap.size M x) [7, 8] (by kernel_rfl) ?_
            refine Order.readsE_any (idx := [1, 2, 4]) (by kernel_rfl) (Below.refl _ _).drew (fun _ _ _ _ _ h => Order.noPanic_put h) 6 _ _ (by decide +kernel) ?_
            simp only [Order.pick, List.getElem?_toArray, List.getElem?_cons_zero, List.getElem?_cons_succ]
            repeat (first
              | (refine Order.reads_off (by rfl) ?_
                 simp only [Act.put, List.setIfInBounds_toArray, List.set_cons_zero, List.set_cons_succ])
              | (apply Order.reads_on
                 · rfl
                 · intro x hx
                   first
                     | (obtain ⟨q0, q1⟩ := HF.out x hx
                        exact Order.load_at rfl rfl (by assumption))
                     | (go_simp; rfl)
                     | (obtain ⟨q0, q1⟩ := HF.out x hx
                        go_simp; rfl)
                 simp only [Act.put, List.setIfInBounds_toArray, List.set_cons_zero, List.set_cons_succ]))
            refine Order.reads_end ?_
            have HB0 := Lib.hid (show Below M.heap.size M M.drew from (Below.refl _ _).drew)
            apply Order.actE2 (i := 0) (j := 5)
            · rfl
            · rfl
            · decide +kernel
            · rfl
            · rfl
            · simp only [List.getElem_toArray, List.getElem_cons_zero]
              refine Order.wp_lit0 rfl (empty_dw _) ?_
              have al : Below M.drew.heap.size M.drew (M.drew.alloc (.cells #[] tDw)) := (Below.refl _ _).alloc (Nat.le_refl _) _
              have hb : Below M.heap.size M (M.drew.alloc (.cells #[] tDw)) := HB0.out.trans (al.mono HB0.out.size)
              have ho := own_base (empty_row M.drew) (show M.heap.size ≤ M.drew.heap.size from HB0.out.size)
              refine ⟨hb, ?_⟩
              have HB1 := Lib.hid hb
              have HO := Lib.hid ho
              clear hb ho al
              generalize M.drew.alloc (.cells #[] tDw) = V1 at *
              replace HO := Lib.hid (show World.ownsRow V1 M.heap.size tDw 129 (.slice (some ⟨M.heap.size, 0, none⟩) 0 0) 0 [] from HO.out)
              have HEl := Lib.hid (HO.out.lt M.heap.size rfl).2
              apply Order.actE2 (i := 3) (j := 5)
              · rfl
              · rfl
              · decide +kernel
              · rfl
              · rfl
              · simp only [List.getElem_toArray, List.getElem_cons_succ, List.getElem_cons_zero]
                refine wp_app _ _ rfl rfl rfl HO.out HB1.out.size (HKC.out.2.1.now.below (HM.out.1.trans (HB1.out.mono HM.out.1.size))) (by have := HKC.out.2.2; omega) ?_
                intro r5 V2 o5 g5 n5
                rw [Nat.zero_add, List.nil_append] at o5
                have hb : Below M.heap.size M V2 := HB1.out.grown g5 HB1.out.size fun k hk => (HO.out.lt k hk).1
                refine ⟨hb, ?_⟩
                obtain ⟨a5, p5, rfl⟩ := own_slice o5
                have HB2 := Lib.hid hb
                replace HO := Lib.hid o5
                clear hb o5 g5 n5
                apply Order.actE (i := 5)
                · rfl
                · decide +kernel
                · rfl
                simp only [List.getElem_toArray, List.getElem_cons_succ, List.getElem_cons_zero]
                refine Order.wp_lit1 rfl rfl (one_dw _ k (pad b) HPad.out) ?_
                have al : Below V2.heap.size V2 (V2.alloc (.cells (wrc k (pad b)) tDw)) := (Below.refl _ _).alloc (Nat.le_refl _) _
                have hb : Below M.heap.size M (V2.alloc (.cells (wrc k (pad b)) tDw)) := HB2.out.trans (al.mono HB2.out.size)
                have hl : (V2.alloc (.cells (wrc k (pad b)) tDw)).heap[V2.heap.size]? = some (.cells (wrc k (pad b)) tDw (0, 0)) := heap_alloc_new V2 _
                refine ⟨hb, ?_⟩
                replace HO := Lib.hid (own_below HO.out al)
                have HB3 := Lib.hid hb
                have HLit := Lib.hid hl
                clear hb hl al
                generalize V2.alloc (.cells (wrc k (pad b)) tDw) = V3 at *
                generalize V2.heap.size = L0 at *
                apply Order.actE (i := 6)
                · rfl
                · decide +kernel
                · rfl
                simp only [List.getElem_toArray, List.getElem_cons_succ, List.getElem_cons_zero]
                refine wp_app _ _ rfl rfl rfl HO.out HB3.out.size (lit_isW HLit.out HPad.out) (by simp only [List.length_singleton]; have := HKC.out.2.2; omega) ?_
                intro r6 V4 o6 g6 n6
                change V4.ownsRow _ _ _ r6 (t.cache.length + 1) _ at o6
                rw [← wcells_append] at o6
                have hb : Below M.heap.size M V4 := HB3.out.grown g6 HB3.out.size fun k hk => (HO.out.lt k hk).1
                refine ⟨hb, ?_⟩
                obtain ⟨a6, p6, rfl⟩ := own_slice o6
                have hR6 := HM.out.2.1.on hb
                obtain ⟨-, -, d2, -⟩ := hR6.cells
                have f2 := hR6.free.2.2.1
                have HB4 := Lib.hid hb
                replace HO := Lib.hid o6
                have HR := Lib.hid hR6
                clear hb o6 g6 n6 hR6
                apply Order.lastE (i := 7)
                · rfl
                · decide +kernel
                · decide
                · rfl
                unfold Oper.wp
                go_simp
                apply Order.lastE (i := 8)
                · rfl
                · decide +kernel
                · decide
                · rfl
                unfold Oper.wp
                go_simp
                refine Order.doneE (by decide +kernel) ?_ _
                refine NoPanic.normal ?_
                have h6 := HR.out.set 2 (.slice a6 (t.cache.length + 1) p6)
                have t6 : Turns (fun k => k = w.heap.size) V4 (V4.setCell ⟨w.heap.size, 2, none⟩ (.slice a6 (t.cache.length + 1) p6)) := (Turns.refl (fun k => k = w.heap.size) V4).setCell (p := ⟨w.heap.size, 2, none⟩) rfl _
                have HE := Lib.hid (And.intro h6 t6)
                clear h6 t6 d2 f2
                generalize V4.setCell ⟨w.heap.size, 2, none⟩ (.slice a6 (t.cache.length + 1) p6) = Fin at *
                go_wp2_with fail
                go_meet
                case rel =>
                  have hNM : w.heap.size < M.heap.size := HM.out.2.1.lt
                  refine ⟨a6, p6, Lib.hid ⟨HE.out.1, (HM.out.2.2.on HB4.out).turn HE.out.2 (by omega), own_turn HO.out HE.out.2 fun j hj e => ?_, (HM.out.1.trans (HB4.out.mono HM.out.1.size)).trans (HE.out.2.below (B := w.heap.size) (Nat.le_trans HM.out.1.size HB4.out.size) fun j e => by omega)⟩⟩
                  have := (HO.out.lt j hj).1
                  omega
              · simp only [List.getElem_toArray, List.getElem_cons_succ, List.getElem_cons_zero]
                refine Order.wp_lit1 rfl rfl (one_dw _ k (pad b) HPad.out) ?_
                have al : Below V1.heap.size V1 (V1.alloc (.cells (wrc k (pad b)) tDw)) := (Below.refl _ _).alloc (Nat.le_refl _) _
                have hb : Below M.heap.size M (V1.alloc (.cells (wrc k (pad b)) tDw)) := HB1.out.trans (al.mono HB1.out.size)
                have hl : (V1.alloc (.cells (wrc k (pad b)) tDw)).heap[V1.heap.size]? = some (.cells (wrc k (pad b)) tDw (0, 0)) := heap_alloc_new V1 _
                refine ⟨hb, ?_⟩
                replace HO := Lib.hid (own_below HO.out al)
                have hne : M.heap.size ≠ V1.heap.size := fun e => by have := HEl.out; omega
                have HNE := Lib.hid hne
                clear hne
                have HB2 := Lib.hid hb
                have HLit := Lib.hid hl
                clear hb hl al
                generalize V1.alloc (.cells (wrc k (pad b)) tDw) = V2 at *
                generalize V1.heap.size = L0 at *
                apply Order.actE (i := 3)
                · rfl
                · decide +kernel
                · rfl
                simp only [List.getElem_toArray, List.getElem_cons_succ, List.getElem_cons_zero]
                refine wp_app _ _ rfl rfl rfl HO.out HB2.out.size (HKC.out.2.1.now.below (HM.out.1.trans (HB2.out.mono HM.out.1.size))) (by have := HKC.out.2.2; omega) ?_
                intro r5 V3 o5 g5 n5
                rw [Nat.zero_add, List.nil_append] at o5
                have hb : Below M.heap.size M V3 := HB2.out.grown g5 HB2.out.size fun k hk => (HO.out.lt k hk).1
                refine ⟨hb, ?_⟩
                obtain ⟨a5, p5, rfl⟩ := own_slice o5
                replace HLit := Lib.hid ((g5.block _ (Array.getElem?_eq_some_iff.1 HLit.out).1 fun e => HNE.out (Option.some.inj e).symm).trans HLit.out)
                have HB3 := Lib.hid hb
                replace HO := Lib.hid o5
                clear hb o5 g5 n5
                apply Order.actE (i := 6)
                · rfl
                · decide +kernel
                · rfl
                simp only [List.getElem_toArray, List.getElem_cons_succ, List.getElem_cons_zero]
                refine wp_app _ _ rfl rfl rfl HO.out HB3.out.size (lit_isW HLit.out HPad.out) (by simp only [List.length_singleton]; have := HKC.out.2.2; omega) ?_
                intro r6 V4 o6 g6 n6
                change V4.ownsRow _ _ _ r6 (t.cache.length + 1) _ at o6
                rw [← wcells_append] at o6
                have hb : Below M.heap.size M V4 := HB3.out.grown g6 HB3.out.size fun k hk => (HO.out.lt k hk).1
                refine ⟨hb, ?_⟩
                obtain ⟨a6, p6, rfl⟩ := own_slice o6
                have hR6 := HM.out.2.1.on hb
                obtain ⟨-, -, d2, -⟩ := hR6.cells
                have f2 := hR6.free.2.2.1
                have HB4 := Lib.hid hb
                replace HO := Lib.hid o6
                have HR := Lib.hid hR6
                clear hb o6 g6 n6 hR6
                apply Order.lastE (i := 7)
                · rfl
                · decide +kernel
                · decide
                · rfl
                unfold Oper.wp
                go_simp
                apply Order.lastE (i := 8)
                · rfl
                · decide +kernel
                · decide
                · rfl
                unfold Oper.wp
                go_simp
                refine Order.doneE (by decide +kernel) ?_ _
                refine NoPanic.normal ?_
                have h6 := HR.out.set 2 (.slice a6 (t.cache.length + 1) p6)
                have t6 : Turns (fun k => k = w.heap.size) V4 (V4.setCell ⟨w.heap.size, 2, none⟩ (.slice a6 (t.cache.length + 1) p6)) := (Turns.refl (fun k => k = w.heap.size) V4).setCell (p := ⟨w.heap.size, 2, none⟩) rfl _
                have HE := Lib.hid (And.intro h6 t6)
                clear h6 t6 d2 f2
                generalize V4.setCell ⟨w.heap.size, 2, none⟩ (.slice a6 (t.cache.length + 1) p6) = Fin at *
                go_wp2_with fail
                go_meet
                case rel =>
                  have hNM : w.heap.size < M.heap.size := HM.out.2.1.lt
                  refine ⟨a6, p6, Lib.hid ⟨HE.out.1, (HM.out.2.2.on HB4.out).turn HE.out.2 (by omega), own_turn HO.out HE.out.2 fun j hj e => ?_, (HM.out.1.trans (HB4.out.mono HM.out.1.size)).trans (HE.out.2.below (B := w.heap.size) (Nat.le_trans HM.out.1.size HB4.out.size) fun j e => by omega)⟩⟩
                  have := (HO.out.lt j hj).1
                  omega
            · simp only [List.getElem_toArray, List.getElem_cons_succ, List.getElem_cons_zero]
              refine Order.wp_lit1 rfl rfl (one_dw _ k (pad b) HPad.out) ?_
              have al : Below M.drew.heap.size M.drew (M.drew.alloc (.cells (wrc k (pad b)) tDw)) := (Below.refl _ _).alloc (Nat.le_refl _) _
              have hb : Below M.heap.size M (M.drew.alloc (.cells (wrc k (pad b)) tDw)) := HB0.out.trans (al.mono HB0.out.size)
              have hl : (M.drew.alloc (.cells (wrc k (pad b)) tDw)).heap[M.heap.size]? = some (.cells (wrc k (pad b)) tDw (0, 0)) := heap_alloc_new M.drew _
              refine ⟨hb, ?_⟩
              have HB1 := Lib.hid hb
              have HLit := Lib.hid hl
              clear hb hl al
              generalize M.drew.alloc (.cells (wrc k (pad b)) tDw) = V1 at *
              apply Order.actE (i := 0)
              · rfl
              · decide +kernel
              · rfl
              simp only [List.getElem_toArray, List.getElem_cons_zero]
              refine Order.wp_lit0 rfl (empty_dw _) ?_
              have al : Below V1.heap.size V1 (V1.alloc (.cells #[] tDw)) := (Below.refl _ _).alloc (Nat.le_refl _) _
              have hb : Below M.heap.size M (V1.alloc (.cells #[] tDw)) := HB1.out.trans (al.mono HB1.out.size)
              have ho := own_base (empty_row V1) (show M.heap.size ≤ V1.heap.size from HB1.out.size)
              refine ⟨hb, ?_⟩
              have hne : V1.heap.size ≠ M.heap.size := fun e => by have := (Array.getElem?_eq_some_iff.1 HLit.out).1; omega
              have HNE := Lib.hid hne
              clear hne
              replace HLit := Lib.hid ((al.block _ (Array.getElem?_eq_some_iff.1 HLit.out).1).trans HLit.out)
              have HB2 := Lib.hid hb
              have HO := Lib.hid ho
              clear hb ho al
              generalize V1.alloc (.cells #[] tDw) = V2 at *
              generalize V1.heap.size = E0 at *
              apply Order.actE (i := 3)
              · rfl
              · decide +kernel
              · rfl
              simp only [List.getElem_toArray, List.getElem_cons_succ, List.getElem_cons_zero]
              refine wp_app _ _ rfl rfl rfl HO.out HB2.out.size (HKC.out.2.1.now.below (HM.out.1.trans (HB2.out.mono HM.out.1.size))) (by have := HKC.out.2.2; omega) ?_
              intro r5 V3 o5 g5 n5
              rw [Nat.zero_add, List.nil_append] at o5
              have hb : Below M.heap.size M V3 := HB2.out.grown g5 HB2.out.size fun k hk => (HO.out.lt k hk).1
              refine ⟨hb, ?_⟩
              obtain ⟨a5, p5, rfl⟩ := own_slice o5
              replace HLit := Lib.hid ((g5.block _ (Array.getElem?_eq_some_iff.1 HLit.out).1 fun e => HNE.out (Option.some.inj e).symm).trans HLit.out)
              have HB3 := Lib.hid hb
              replace HO := Lib.hid o5
              clear hb o5 g5 n5
              apply Order.actE (i := 6)
              · rfl
              · decide +kernel
              · rfl
              simp only [List.getElem_toArray, List.getElem_cons_succ, List.getElem_cons_zero]
              refine wp_app _ _ rfl rfl rfl HO.out HB3.out.size (lit_isW HLit.out HPad.out) (by simp only [List.length_singleton]; have := HKC.out.2.2; omega) ?_
              intro r6 V4 o6 g6 n6
              change V4.ownsRow _ _ _ r6 (t.cache.length + 1) _ at o6
              rw [← wcells_append] at o6
              have hb : Below M.heap.size M V4 := HB3.out.grown g6 HB3.out.size fun k hk => (HO.out.lt k hk).1
              refine ⟨hb, ?_⟩
              obtain ⟨a6, p6, rfl⟩ := own_slice o6
              have hR6 := HM.out.2.1.on hb
              obtain ⟨-, -, d2, -⟩ := hR6.cells
              have f2 := hR6.free.2.2.1
              have HB4 := Lib.hid hb
              replace HO := Lib.hid o6
              have HR := Lib.hid hR6
              clear hb o6 g6 n6 hR6
              apply Order.lastE (i := 7)
              · rfl
              · decide +kernel
              · decide
              · rfl
              unfold Oper.wp
              go_simp
              apply Order.lastE (i := 8)
              · rfl
              · decide +kernel
              · decide
              · rfl
              unfold Oper.wp
              go_simp
              refine Order.doneE (by decide +kernel) ?_ _
              refine NoPanic.normal ?_
              have h6 := HR.out.set 2 (.slice a6 (t.cache.length + 1) p6)
              have t6 : Turns (fun k => k = w.heap.size) V4 (V4.setCell ⟨w.heap.size, 2, none⟩ (.slice a6 (t.cache.length + 1) p6)) := (Turns.refl (fun k => k = w.heap.size) V4).setCell (p := ⟨w.heap.size, 2, none⟩) rfl _
              have HE := Lib.hid (And.intro h6 t6)
              clear h6 t6 d2 f2
              generalize V4.setCell ⟨w.heap.size, 2, none⟩ (.slice a6 (t.cache.length + 1) p6) = Fin at *
              go_wp2_with fail
              go_meet
              case rel =>
                have hNM : w.heap.size < M.heap.size := HM.out.2.1.lt
                refine ⟨a6, p6, Lib.hid ⟨HE.out.1, (HM.out.2.2.on HB4.out).turn HE.out.2 (by omega), own_turn HO.out HE.out.2 fun j hj e => ?_, (HM.out.1.trans (HB4.out.mono HM.out.1.size)).trans (HE.out.2.below (B := w.heap.size) (Nat.le_trans HM.out.1.size HB4.out.size) fun j e => by omega)⟩⟩
                have := (HO.out.lt j hj).1
                omega
          case rest =>
            obtain ⟨a6, p6, HCu⟩ := hcut
            obtain ⟨c0, c1, c2, c3, c4⟩ := HCu.out.1.cells
            obtain ⟨d0, d1, d2, d3, d4⟩ := HCu.out.2.1.cells
            obtain ⟨f0, f1, f2, f3, f4⟩ := HCu.out.2.1.free
            have HT := Lib.hid (And.intro (st5_turns wc (w.heap.size + 1) (.int .i64 (n : Int)) (.slice ka t.kept.length kq) (.slice a6 (t.cache.length + 1) p6) (.int .i64 t.step.left) (.bool t.step.dark)) (HCu.out.2.1.put (.int .i64 (n : Int)) (.slice ka t.kept.length kq) (.slice a6 (t.cache.length + 1) p6) (.int .i64 t.step.left) (.bool t.step.dark)))
            go_wp2_with fail
            change bodyPost _ _ _ _ _ (st5 wc (w.heap.size + 1) (.int .i64 (n : Int)) (.slice ka t.kept.length kq) (.slice a6 (t.cache.length + 1) p6) (.int .i64 t.step.left) (.bool t.step.dark))
            clear c0 c1 c2 c3 c4 d0 d1 d2 d3 d4 f0 f1 f2 f3 f4
            generalize st5 wc (w.heap.size + 1) (.int .i64 (n : Int)) (.slice ka t.kept.length kq) (.slice a6 (t.cache.length + 1) p6) (.int .i64 t.step.left) (.bool t.step.dark) = Fin at *
            obtain ⟨g0, g1, g2, g3, g4⟩ := HT.out.2.cells
            have hfin : Below w.heap.size w Fin := (HCu.out.2.2.2).trans (HT.out.1.below (B := w.heap.size) ((HCu.out.2.2.2).size) fun k e => by omega)
            refine bodyPost_ret (v := .tuple #[.agg #[.int .i64 (n : Int), .slice ka t.kept.length kq, .slice a6 (t.cache.length + 1) p6, .int .i64 t.step.left, .bool t.step.dark], .int .i64 0]) (by simp [results, Try.results31, go_sem, g0, g1, g2, g3, g4]) rfl ⟨_, by rw [HWr.out], ?_, hfin⟩
            rw [HWr.out]
            refine ⟨_, _, rfl, ?_, ?_⟩
            · show Stay F Fin fun x => IsW x _ t.step.kept
              rw [HQ.out.1]
              exact HKC.out.1.below hfin
            · show Stay F Fin fun x => IsW x _ (t.step.cache ++ [(k, pad b)])
              rw [HQ.out.2]
              have hlen : (t.cache ++ [(k, pad b)]).length = t.cache.length + 1 := by simp
              rw [← hlen]
              refine stay_own (B := M.heap.size) ?_ (fun q hq => ?_) fun k hk => by have := HF0.out k hk; have := HM.out.1.size; omega
              · rw [hlen]
                refine own_turn HCu.out.2.2.1 HT.out.1 fun j hj e => ?_
                have := (HCu.out.2.2.1.lt j hj).1
                have := HM.out.2.2.lt
                omega
              · rcases List.mem_append.1 hq with hq | hq
                · exact HKC.out.2.1.now.len q hq
                · rw [List.mem_singleton] at hq
                  rw [hq]
                  exact HPad.out
end Ta
end Go.Proofs.Ytdodmjcbjknneaa
