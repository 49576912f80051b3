/-
  Layer 14: the program's readMark: the mark that stands on a sector.
-/
import Derived.Test.YtkfmmdiflbnhgaaHoSec
import Derived.Test.YtkfmmdiflbnhgaaSpRead
namespace Go.Proofs.Ytkfmmdiflbnhgaa
set_option maxRecDepth 100000
open Go.RowKit
open Knot (Turns)
open Ta (IsBytes sec nul C5)
open Sp (Blk take_any num eql_sec)
namespace Ho
/-- A box of a program's mark. -/
def MkP (x : World) (A : Nat) (ms : List Nat) : Prop := x.heap[A]? = some (.cells (mcs ms) tPm (0, 0))
section
variable {w x y : World} {A i : Nat} {ms : List Nat}
theorem MkP.lt (h : MkP x A ms) : A < x.heap.size := (Array.getElem?_eq_some_iff.1 h).1
theorem MkP.on (h : MkP x A ms) (hb : Below x.heap.size x y) : MkP y A ms := (hb.block A h.lt).trans h
theorem MkP.turn {F : Nat → Prop} (h : MkP x A ms) (ht : Turns F x y) (hF : ¬ F A) : MkP y A ms := ht.heap h hF
theorem MkP.cell (h : MkP x A ms) (hi : i < ms.length) : x.cell? ⟨A, i, none⟩ = some (.int .i64 (ms[i] : Int)) := by
  rw [Lib.cell_of_heap h]
  simp [mcs, hi]
theorem MkP.free (h : MkP x A ms) (i : Nat) : x.frozen? ⟨A, i, none⟩ = false := Lib.frozen_of_heap h i
theorem MkP.set (h : MkP x A ms) (i n : Nat) : MkP (x.setCell ⟨A, i, none⟩ (.int .i64 (n : Int))) A (ms.set i n) := by
  unfold MkP
  rw [heap_setCell_same x A i _ tPm _ h]
  congr 2
  simp [mcs, List.map_set]
end
theorem index_addr5 (A i : Nat) (h : i < 5) (W : World) : (Instr.indexAt tPm (.pointer (some ⟨A, 0, none⟩)) (.int .i64 (i : Int))).run Try.prog W = .ok (.pointer (some ⟨A, i, none⟩)) W := by
  have h0 : (Instr.indexAt tPm (.pointer (some ⟨A, 0, none⟩)) (.int .i64 0)).run Try.prog W = .ok (.pointer (some ⟨A, 0, none⟩)) W := by kernel_rfl
  have h1 : (Instr.indexAt tPm (.pointer (some ⟨A, 0, none⟩)) (.int .i64 1)).run Try.prog W = .ok (.pointer (some ⟨A, 1, none⟩)) W := by kernel_rfl
  have h2 : (Instr.indexAt tPm (.pointer (some ⟨A, 0, none⟩)) (.int .i64 2)).run Try.prog W = .ok (.pointer (some ⟨A, 2, none⟩)) W := by kernel_rfl
  have h3 : (Instr.indexAt tPm (.pointer (some ⟨A, 0, none⟩)) (.int .i64 3)).run Try.prog W = .ok (.pointer (some ⟨A, 3, none⟩)) W := by kernel_rfl
  have h4 : (Instr.indexAt tPm (.pointer (some ⟨A, 0, none⟩)) (.int .i64 4)).run Try.prog W = .ok (.pointer (some ⟨A, 4, none⟩)) W := by kernel_rfl
  match i, h with
  | 0, _ => exact h0
  | 1, _ => exact h1
  | 2, _ => exact h2
  | 3, _ => exact h3
  | 4, _ => exact h4
set_option maxHeartbeats 8000000 in
set_option maxRecDepth 100000 in
theorem mread_any (b : List UInt8) (hb : b.length = 128) (w : World) : Calls Try.prog 92 #[.agg (sec b)] w fun r x => r = .returned (.tuple #[.agg (mcs (mkO b)), .bool (decide (mkS (mkO b) = b))]) ∧ Below w.heap.size w x := by
  have hb8 := Ta.sec_size hb
  go_enter Try.func92, Try.ntmps92
  go_upto_region 2 with fail
  obtain ⟨X, hX⟩ : ∃ X, X = ((w.alloc (.cells (sec b) 64)).alloc (.cells (mcs [0, 0, 0, 0, 0]) tPm)).alloc (.cells (mcs [0, 0, 0, 0, 0]) tPm) := ⟨_, rfl⟩
  change Code.wp _ _ _ _ (((w.alloc (.cells (sec b) 64)).alloc (.cells (mcs [0, 0, 0, 0, 0]) tPm)).alloc (.cells (mcs [0, 0, 0, 0, 0]) tPm))
  rw [← hX]
  have HX := Lib.hid (show Below w.heap.size w X ∧ Blk X w.heap.size 64 b ∧ MkP X (w.heap.size + 1) [0, 0, 0, 0, 0] ∧ MkP X (w.heap.size + 1 + 1) [0, 0, 0, 0, 0] from by
    rw [hX]
    generalize hA : w.alloc (.cells (sec b) 64) = X1
    have a1 : Below w.heap.size w X1 := by rw [← hA]; exact (Below.refl _ _).alloc (Nat.le_refl _) _
    have c1 : Blk X1 w.heap.size 64 b := by rw [← hA]; exact heap_alloc_new w _
    have s1 : X1.heap.size = w.heap.size + 1 := by rw [← hA]; simp
    generalize hB : X1.alloc (.cells (mcs [0, 0, 0, 0, 0]) tPm) = X2
    have a2 : Below X1.heap.size X1 X2 := by rw [← hB]; exact (Below.refl _ _).alloc (Nat.le_refl _) _
    have c2 : MkP X2 (w.heap.size + 1) [0, 0, 0, 0, 0] := by rw [← hB, ← s1]; exact heap_alloc_new X1 _
    have s2 : X2.heap.size = w.heap.size + 1 + 1 := by rw [← hB]; simp [s1]
    have a3 : Below X2.heap.size X2 (X2.alloc (.cells (mcs [0, 0, 0, 0, 0]) tPm)) := (Below.refl _ _).alloc (Nat.le_refl _) _
    have c3 : MkP (X2.alloc (.cells (mcs [0, 0, 0, 0, 0]) tPm)) (w.heap.size + 1 + 1) [0, 0, 0, 0, 0] := by rw [← s2]; exact heap_alloc_new X2 _
    exact ⟨(a1.trans (a2.mono a1.size)).trans (a3.mono (by omega)), (c1.on a2).on a3, c2.on a3, c3⟩)
  clear hX hb8
  obtain ⟨T, hT⟩ : ∃ T, T = w.heap.size + 1 := ⟨_, rfl⟩
  rw [← hT] at HX ⊢
  obtain ⟨M, hM⟩ : ∃ M, M = T + 1 := ⟨_, rfl⟩
  rw [← hM] at HX ⊢
  have HO := Lib.hid (show w.heap.size < T ∧ T < M from by omega)
  clear hT hM
  have HB := Lib.hid hb
  clear hb
  go_wp2_with fail
  go_loopw [6] (fun vi x => ∃ i : Nat, i ≤ 5 ∧ vi = .int .i64 (i : Int) ∧ Hid (Turns (fun k => k = M) X x ∧ MkP x M (told b i))) (fun vi _ => 5 - (intOf vi).toNat)
  case atStart => exact ⟨0, by omega, rfl, Turns.refl _ _, HX.out.2.2.2⟩
  case round =>
    obtain ⟨i, hi, rfl, HI⟩ := hrel
    by_cases hlt : i < 5
    · have hsl := slice6 w.heap.size i hlt
      have hia := index_addr5 M i hlt
      have hcM := HI.out.2.cell (i := i) (by rw [told_len b hi]; exact hlt)
      have hfM := HI.out.2.free i
      have HP := Lib.hid (take_any (.slice (some ⟨w.heap.size, 1 + 6 * i, none⟩) 6 (127 - 6 * i)) ((b.drop (1 + 6 * i)).take 6) wr ((HX.out.2.1.turn HI.out.1 (by have := HO.out; omega)).bytes (by rw [HB.out]; omega) (by omega) (by unfold maxLen; omega)) (by rw [List.length_take]; omega))
      have HN := Lib.hid (And.intro (HI.out.1.setCell (p := ⟨M, i, none⟩) rfl (.int .i64 ((num ((b.drop (1 + 6 * i)).take 6) : Nat) : Int))) (HI.out.2.set i (num ((b.drop (1 + 6 * i)).take 6))))
      rw [told_set b hlt] at HN
      generalize num ((b.drop (1 + 6 * i)).take 6) = N at *
      go_wp2_with fail
      refine HP.out.mono ?_
      rintro r1 Z ⟨rfl, hZ⟩
      rw [hZ]
      clear HP hZ Z
      go_wp2_with fail
      go_roundw
      case rel => exact ⟨i + 1, by omega, by go_num, HN.out⟩
      case measure => simp [intOf]; omega
    · obtain rfl : i = 5 := by omega
      rw [told_all] at HI
      have hl5 := mkO_len b
      have hmt := mkO_lt HB.out
      obtain ⟨m0, m1, m2, m3, m4, hmo⟩ := five hl5
      have HMo := Lib.hid hmo
      rw [hmo] at HI hl5 hmt
      clear hmo
      have hc5 : C5 M tPm (.int .i64 (m0 : Int)) (.int .i64 (m1 : Int)) (.int .i64 (m2 : Int)) (.int .i64 (m3 : Int)) (.int .i64 (m4 : Int)) wr := HI.out.2
      have hr5 : C5 T tPm (.int .i64 0) (.int .i64 0) (.int .i64 0) (.int .i64 0) (.int .i64 0) wr := HX.out.2.2.1.turn HI.out.1 (by have := HO.out; omega)
      have hB := HX.out.2.1.turn HI.out.1 (by have := HO.out; omega)
      have hbw : Below w.heap.size w wr := HX.out.1.trans (HI.out.1.below HX.out.1.size fun k e => by have := HO.out; omega)
      have HV := Lib.hid (And.intro hc5 (And.intro hr5 (And.intro hB hbw)))
      have hQ := msector_any m0 m1 m2 m3 m4 (fun m hm => Nat.lt_of_lt_of_le (hmt m hm) (by omega)) wr.drew
      have hS8 := mkS_len hl5
      have HAn := Lib.hid (show Value.tuple #[.agg (mcs (mkO b)), .bool (decide (mkS (mkO b) = b))] = .tuple #[.agg #[.int .i64 (m0 : Int), .int .i64 (m1 : Int), .int .i64 (m2 : Int), .int .i64 (m3 : Int), .int .i64 (m4 : Int)], .bool (decide (mkS [m0, m1, m2, m3, m4] = b))] from by rw [HMo.out]; rfl)
      rw [mcs5] at hQ
      generalize mkS [m0, m1, m2, m3, m4] = S at *
      have HQ := Lib.hid (And.intro hQ hS8)
      clear hQ hS8 hc5 hr5 hB hbw HI HMo hl5 hmt HX
      generalize wr = V at *
      go_upto_region 7 with fail
      have HF := Lib.hid (show ∀ x, Turns (fun k => k = T) V x → C5 M tPm (.int .i64 (m0 : Int)) (.int .i64 (m1 : Int)) (.int .i64 (m2 : Int)) (.int .i64 (m3 : Int)) (.int .i64 (m4 : Int)) x ∧ (Instr.loadAt 64 (.pointer (some ⟨w.heap.size, 0, none⟩))).run Try.prog x = .ok (.agg (sec b)) x from fun x hx => by
        refine ⟨HV.out.1.turn hx (by have := HO.out; omega), ?_⟩
        have hbk := HV.out.2.2.1.turn hx (by have := HO.out; omega)
        have := run_loadAt_mid (P := Try.prog) x w.heap.size 0 64 (Lib.byteCells b) _ (fun j v hj => by rw [Nat.zero_add, Lib.cell_of_heap hbk]; simpa [sec] using hj) Try.underlying64 rfl (by rw [Lib.byteCells_length, HB.out]; exact Ta.info_sec)
        exact this)
      refine Order.region_begin (S := Turns (fun k => k = T) V.drew) (by kernel_rfl) ?_
      refine Order.reads_any (idx := [0, 1, 3]) (by kernel_rfl) (Turns.refl _ _) (fun _ _ _ _ _ h => Order.noPanic_put h) 4 _ _ (by decide +kernel) ?_
      simp only [Order.pick, List.getElem?_toArray, List.getElem?_cons_zero, List.getElem?_cons_succ]
      repeat (first
        | (refine Order.reads_off (by rfl) ?_
           simp only [Act.put, List.setIfInBounds_toArray, List.set_cons_zero, List.set_cons_succ])
        | (apply Order.reads_on
           · rfl
           · intro x hx
             first
               | (obtain ⟨hp, hl⟩ := HF.out x (Turns.after_below (Below.refl _ _).drew hx)
                  obtain ⟨c0, c1, c2, c3, c4⟩ := hp.cells
                  exact Order.load_at rfl rfl (by assumption))
               | (go_simp; rfl)
               | (obtain ⟨hp, hl⟩ := HF.out x (Turns.after_below (Below.refl _ _).drew hx)
                  obtain ⟨c0, c1, c2, c3, c4⟩ := hp.cells
                  go_simp; rfl)
           simp only [Act.put, List.setIfInBounds_toArray, List.set_cons_zero, List.set_cons_succ]))
      refine Order.reads_end ?_
      apply Order.acts_any (R := (Turns (fun k => k = T))) (fun h k => h.trans k fun _ _ h => h) (i := 2)
      · rfl
      · decide +kernel
      · rfl
      unfold Oper.wp
      go_simp
      refine HQ.out.1.mono ?_
      rintro e1 Z ⟨rfl, hbz⟩
      refine ⟨Turns.of_below hbz, ?_⟩
      have hez := eql_sec
      have hS8 := HQ.out.2
      have hb8 := HB.out
      refine Order.reads_any (idx := [4]) (by kernel_rfl) (Turns.refl _ _) (fun _ _ _ _ _ h => Order.noPanic_put h) 2 _ _ (by decide +kernel) ?_
      simp only [Order.pick, List.getElem?_toArray, List.getElem?_cons_zero, List.getElem?_cons_succ]
      repeat (first
        | (refine Order.reads_off (by rfl) ?_
           simp only [Act.put, List.setIfInBounds_toArray, List.set_cons_zero, List.set_cons_succ])
        | (apply Order.reads_on
           · rfl
           · intro x hx
             first
               | (go_simp; rfl)
               | (have h := eql_sec x S b HQ.out.2 HB.out
                  go_simp; rfl)
           simp only [Act.put, List.setIfInBounds_toArray, List.set_cons_zero, List.set_cons_succ]))
      refine Order.reads_end ?_
      have hbz' : Below V.heap.size V Z := (Below.refl V.heap.size V).drew.trans hbz
      have hbox := HV.out.2.1.on hbz'
      obtain ⟨c0, c1, c2, c3, c4⟩ := hbox.cells
      obtain ⟨f0, f1, f2, f3, f4⟩ := hbox.free
      have ht5 := Ta.st5_turns Z T (.int .i64 (m0 : Int)) (.int .i64 (m1 : Int)) (.int .i64 (m2 : Int)) (.int .i64 (m3 : Int)) (.int .i64 (m4 : Int))
      have HT5 := Lib.hid (And.intro ht5 (And.intro (hbox.put (.int .i64 (m0 : Int)) (.int .i64 (m1 : Int)) (.int .i64 (m2 : Int)) (.int .i64 (m3 : Int)) (.int .i64 (m4 : Int))) hbz'))
      clear hbz hbz' hbox ht5 hez
      apply Order.acts_any (R := (Turns (fun k => k = T))) (fun h k => h.trans k fun _ _ h => h) (i := 5)
      · rfl
      · decide +kernel
      · rfl
      unfold Oper.wp
      go_simp
      obtain ⟨Fin, hFin⟩ : ∃ F, F = Ta.st5 Z T (.int .i64 (m0 : Int)) (.int .i64 (m1 : Int)) (.int .i64 (m2 : Int)) (.int .i64 (m3 : Int)) (.int .i64 (m4 : Int)) := ⟨_, rfl⟩
      rw [← hFin] at HT5
      unfold Ta.st5 at hFin
      rw [← hFin]
      refine ⟨HT5.out.1, ?_⟩
      clear c0 c1 c2 c3 c4 f0 f1 f2 f3 f4 hFin
      refine Order.reads_any (idx := [6]) (by kernel_rfl) (Turns.refl _ _) (fun _ _ _ _ _ h => Order.noPanic_put h) 0 _ _ (by decide +kernel) ?_
      simp only [Order.pick, List.getElem?_toArray, List.getElem?_cons_zero, List.getElem?_cons_succ]
      repeat (first
        | (refine Order.reads_off (by rfl) ?_
           simp only [Act.put, List.setIfInBounds_toArray, List.set_cons_zero, List.set_cons_succ])
        | (apply Order.reads_on
           · rfl
           · intro x hx
             first
               | (go_simp; rfl)
               | (fail
                  go_simp; rfl)
           simp only [Act.put, List.setIfInBounds_toArray, List.set_cons_zero, List.set_cons_succ]))
      refine Order.reads_end ?_
      refine wpAnyH_done (by decide +kernel) ?_ _
      refine NoPanic.normal ?_
      have hfin : Below w.heap.size w Fin := (HV.out.2.2.2.trans (HT5.out.2.2.mono HV.out.2.2.2.size)).trans (HT5.out.1.below (B := w.heap.size) (by have := HV.out.2.2.2.size; have := HT5.out.2.2.size; omega) fun k e => by have := HO.out; omega)
      obtain ⟨g0, g1, g2, g3, g4⟩ := HT5.out.2.1.cells
      have HR := Lib.hid hfin
      clear hfin HT5 HQ HV HF hS8 hb8
      go_wp2_with fail
      exact bodyPost_ret (v := .tuple #[.agg #[.int .i64 (m0 : Int), .int .i64 (m1 : Int), .int .i64 (m2 : Int), .int .i64 (m3 : Int), .int .i64 (m4 : Int)], .bool (decide (S = b))]) (by simp [results, Try.results92, go_sem, g0, g1, g2, g3, g4]) rfl ⟨by rw [HAn.out], HR.out⟩
end Ho
end Go.Proofs.Ytkfmmdiflbnhgaa
