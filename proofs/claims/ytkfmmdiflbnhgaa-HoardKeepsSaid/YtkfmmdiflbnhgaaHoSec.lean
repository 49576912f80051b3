/-
  Layer 14: the program's mark as a sector.
-/
import Derived.Test.YtkfmmdiflbnhgaaHoTr
import Derived.Test.YtkfmmdiflbnhgaaSpSec
namespace Go.Proofs.Ytkfmmdiflbnhgaa
set_option maxRecDepth 100000
open Go.RowKit
open Knot (Turns)
open Ta (IsBytes sec nul C5)
open Sp (Blk be be_len be_at spl spl_len spl_nil spl_fil fil fil_len crc crc_lt sum_any put_any turn1)
namespace Ho
abbrev tPm : TypeId := 126
theorem mput {ms : List Nat} {i : Nat} (h : i < ms.length) : spl (fil (77 :: six (ms.take i))) (1 + 6 * i) (be 6 ms[i]) = fil (77 :: six (ms.take (i + 1))) := by
  rw [six_take h]
  exact spl_fil (by rw [List.length_cons, six_len, List.length_take]; omega)
theorem mend {ms : List Nat} (h : ms.length = 5) : spl (fil (77 :: six ms)) 124 (be 4 (crc (mhead ms))) = mkS ms := by
  rw [fil_mhead h, spl, List.take_left' (mhead_len h), mkS, be_len, List.drop_eq_nil_of_le (by rw [List.length_append, mhead_len h]; simp), List.append_nil]
theorem fil_msix {ms : List Nat} (h : ms.length = 5) (k : Nat) : (fil (77 :: six (ms.take k))).length = 128 := fil_len (by rw [List.length_cons, six_len, List.length_take]; omega)
theorem slice6 (A i : Nat) (h : i < 5) (W : World) : (Instr.sliceAt 64 (.pointer (some ⟨A, 0, none⟩)) (some (.int .i64 (1 + (i : Int) * 6))) (some (.int .i64 (1 + ((i : Int) + 1) * 6))) none).run Try.prog W = .ok (.slice (some ⟨A, 1 + 6 * i, none⟩) 6 (127 - 6 * i)) W := by
  have hz : (sizeOf (Try.prog.elem 64)).run Try.prog W = .ok 1 W := by kernel_rfl
  have hl : Try.prog.arrayLen 64 = 128 := by kernel_rfl
  rw [run_sliceAt_array_lh (P := Try.prog) W 64 ⟨A, 0, none⟩ (by rw [hl]; exact Try.underlying64) .i64 .i64 (1 + (i : Int) * 6) (1 + ((i : Int) + 1) * 6) (by omega) (by omega) (by rw [hl]; omega), hz]
  simp only [Result.andThen_ok, slicedAt, hl]
  have e1 : (1 + (i : Int) * 6).toNat = 1 + 6 * i := by omega
  have e2 : (1 + ((i : Int) + 1) * 6).toNat = 7 + 6 * i := by omega
  rw [e1, e2, show 7 + 6 * i - (1 + 6 * i) = 6 by omega, if_neg (by omega), Tr.addp, show 128 - (1 + 6 * i) = 127 - 6 * i by omega, show 0 + (1 + 6 * i) * 1 = 1 + 6 * i by omega]
theorem index5 (m0 m1 m2 m3 m4 : Nat) (i : Nat) (h : i < [m0, m1, m2, m3, m4].length) (W : World) : (Instr.index tPm (.agg (mcs [m0, m1, m2, m3, m4])) (.int .i64 (i : Int))).run Try.prog W = .ok (.int .i64 ([m0, m1, m2, m3, m4][i] : Nat)) W := by
  have h0 : (Instr.index tPm (.agg (mcs [m0, m1, m2, m3, m4])) (.int .i64 0)).run Try.prog W = .ok (.int .i64 (m0 : Int)) W := by kernel_rfl
  have h1 : (Instr.index tPm (.agg (mcs [m0, m1, m2, m3, m4])) (.int .i64 1)).run Try.prog W = .ok (.int .i64 (m1 : Int)) W := by kernel_rfl
  have h2 : (Instr.index tPm (.agg (mcs [m0, m1, m2, m3, m4])) (.int .i64 2)).run Try.prog W = .ok (.int .i64 (m2 : Int)) W := by kernel_rfl
  have h3 : (Instr.index tPm (.agg (mcs [m0, m1, m2, m3, m4])) (.int .i64 3)).run Try.prog W = .ok (.int .i64 (m3 : Int)) W := by kernel_rfl
  have h4 : (Instr.index tPm (.agg (mcs [m0, m1, m2, m3, m4])) (.int .i64 4)).run Try.prog W = .ok (.int .i64 (m4 : Int)) W := by kernel_rfl
  match i, h with
  | 0, _ => exact h0
  | 1, _ => exact h1
  | 2, _ => exact h2
  | 3, _ => exact h3
  | 4, _ => exact h4
/-- The box of a mark, a result, a sector that is filled. -/
structure Pb (w x : World) (A R g : Nat) (m0 m1 m2 m3 m4 : Nat) (D : List UInt8) : Prop where
  below : Below w.heap.size w x
  mark : C5 A tPm (.int .i64 (m0 : Int)) (.int .i64 (m1 : Int)) (.int .i64 (m2 : Int)) (.int .i64 (m3 : Int)) (.int .i64 (m4 : Int)) x
  res : Blk x R 64 nul
  own : Blk x g 64 D
  ord : w.heap.size ≤ A ∧ A < R ∧ R < g
section
variable {w x y : World} {A R g m0 m1 m2 m3 m4 : Nat} {D D' : List UInt8}
theorem Pb.on (h : Pb w x A R g m0 m1 m2 m3 m4 D) (hb : Below x.heap.size x y) : Pb w y A R g m0 m1 m2 m3 m4 D := ⟨h.below.trans (hb.mono h.below.size), h.mark.on hb, h.res.on hb, h.own.on hb, h.ord⟩
theorem Pb.put (h : Pb w x A R g m0 m1 m2 m3 m4 D) (ht : Turns (fun k => k = g) x y) (hb : Blk y g 64 D') : Pb w y A R g m0 m1 m2 m3 m4 D' := by
  have ho := h.ord
  exact ⟨h.below.trans (ht.below h.below.size fun k e => by omega), h.mark.turn ht (by omega), h.res.turn ht (by omega), hb, h.ord⟩
end
set_option maxHeartbeats 8000000 in
set_option maxRecDepth 100000 in
theorem msector_any (m0 m1 m2 m3 m4 : Nat) (hm : ∀ m ∈ [m0, m1, m2, m3, m4], m < 9223372036854775808) (w : World) :
    Calls Try.prog 88 #[.agg (mcs [m0, m1, m2, m3, m4])] w fun r x => r = .returned (.agg (sec (mkS [m0, m1, m2, m3, m4]))) ∧ Below w.heap.size w x := by
  have hzs := Ta.zero_sec
  have HM := Lib.hid hm
  clear hm
  rw [mcs5]
  go_enter Try.func88, Try.ntmps88
  go_upto_region 2 with fail
  obtain ⟨X, hX⟩ : ∃ X, X = ((w.alloc (.cells #[.int .i64 (m0 : Int), .int .i64 (m1 : Int), .int .i64 (m2 : Int), .int .i64 (m3 : Int), .int .i64 (m4 : Int)] tPm)).alloc (.cells (sec nul) 64)).alloc (.cells (sec nul) 64) := ⟨_, rfl⟩
  rw [← hX]
  have hX0 : Pb w X w.heap.size (w.heap.size + 1) (w.heap.size + 1 + 1) m0 m1 m2 m3 m4 nul := by
    rw [hX]
    generalize hA : w.alloc (.cells #[.int .i64 (m0 : Int), .int .i64 (m1 : Int), .int .i64 (m2 : Int), .int .i64 (m3 : Int), .int .i64 (m4 : Int)] tPm) = X1
    have a1 : Below w.heap.size w X1 := by rw [← hA]; exact (Below.refl _ _).alloc (Nat.le_refl _) _
    have c1 : C5 w.heap.size tPm (.int .i64 (m0 : Int)) (.int .i64 (m1 : Int)) (.int .i64 (m2 : Int)) (.int .i64 (m3 : Int)) (.int .i64 (m4 : Int)) X1 := by rw [← hA]; exact heap_alloc_new w _
    have s1 : X1.heap.size = w.heap.size + 1 := by rw [← hA]; simp
    generalize hB : X1.alloc (.cells (sec nul) 64) = X2
    have a2 : Below X1.heap.size X1 X2 := by rw [← hB]; exact (Below.refl _ _).alloc (Nat.le_refl _) _
    have c2 : Blk X2 (w.heap.size + 1) 64 nul := by rw [← hB, ← s1]; exact heap_alloc_new X1 _
    have s2 : X2.heap.size = w.heap.size + 1 + 1 := by rw [← hB]; simp [s1]
    have a3 : Below X2.heap.size X2 (X2.alloc (.cells (sec nul) 64)) := (Below.refl _ _).alloc (Nat.le_refl _) _
    have c3 : Blk (X2.alloc (.cells (sec nul) 64)) (w.heap.size + 1 + 1) 64 nul := by rw [← s2]; exact heap_alloc_new X2 _
    exact ⟨(a1.trans (a2.mono a1.size)).trans (a3.mono (by omega)), (c1.on a2).on a3, c2.on a3, c3, by omega, by omega, by omega⟩
  clear hX hzs
  revert hX0
  generalize w.heap.size + 1 = R
  generalize R + 1 = g
  generalize hA : w.heap.size = A
  intro hX0
  have q0 := hX0.own.cell (j := 0) (by decide)
  have f0 := hX0.own.free 0
  have ht := turn1 X g 0 (.int .u8 ((77 : UInt8).toNat : Nat))
  have hs := hX0.put ht (by have := hX0.own.set 0 77; rwa [show nul.set 0 77 = fil (77 :: six []) from fil_mstart] at this)
  have HS := Lib.hid hs
  clear hX0 ht hs hA
  go_upto_region 3 with fail
  clear q0 f0
  change Code.wp _ _ _ _ (X.setCell ⟨g, 0, none⟩ (.int .u8 ((77 : UInt8).toNat : Nat)))
  generalize X.setCell ⟨g, 0, none⟩ (.int .u8 ((77 : UInt8).toNat : Nat)) = Y at *
  obtain ⟨c0, c1, c2, c3, c4⟩ := HS.out.mark.cells
  go_wp2_with fail
  clear c0 c1 c2 c3 c4
  go_loopw [8] (fun i x => ∃ j : Nat, j ≤ 5 ∧ i = .int .i64 (j : Int) ∧ Hid (Pb w x A R g m0 m1 m2 m3 m4 (fil (77 :: six ([m0, m1, m2, m3, m4].take j))))) (fun i _ => 5 - (intOf i).toNat)
  case atStart => exact ⟨0, by omega, rfl, HS.out⟩
  case round =>
    clear HS Y
    obtain ⟨j, hj, rfl, HX⟩ := hrel
    by_cases hlt : j < 5
    · have hix := index5 m0 m1 m2 m3 m4 j hlt
      obtain ⟨N, hN⟩ : ∃ N, N = [m0, m1, m2, m3, m4][j] := ⟨_, rfl⟩
      have hsl := slice6 g j hlt
      have HP := Lib.hid (put_any g (1 + 6 * j) 6 (127 - 6 * j) N 64 _ _ HX.out.own (fil_msix rfl j) (by omega) (by omega) (by rw [hN]; exact HM.out _ (List.getElem_mem _)))
      rw [hN, mput (ms := [m0, m1, m2, m3, m4]) hlt, ← hN] at HP
      rw [← hN, mcs5] at hix
      clear hN
      go_wp2_with fail
      refine HP.out.mono ?_
      rintro r1 Z ⟨rfl, ht, hsz, hbk⟩
      have HZ := Lib.hid (HX.out.put ht hbk)
      clear HP ht hsz hbk HX
      go_wp2_with fail
      go_roundw
      case rel => exact ⟨j + 1, by omega, by go_num, HZ.out⟩
      case measure => simp [intOf]; omega
    · obtain rfl : j = 5 := by omega
      rw [show [m0, m1, m2, m3, m4].take 5 = [m0, m1, m2, m3, m4] from rfl] at HX
      generalize wr = Y8 at *
      have h5 : [m0, m1, m2, m3, m4].length = 5 := rfl
      obtain ⟨ms, hms⟩ : ∃ ms, ms = [m0, m1, m2, m3, m4] := ⟨_, rfl⟩
      rw [← hms] at HX h5
      have HMs := Lib.hid (show mkS ms = mkS [m0, m1, m2, m3, m4] from by rw [hms])
      clear hms HM
      have hfl : (fil (77 :: six ms)).length = 128 := fil_len (by rw [List.length_cons, six_len]; omega)
      go_upto_region 8 with fail
      have HD := Lib.hid (show IsBytes Y8.drew (.slice (some ⟨g, 0, none⟩) 124 128) (mhead ms) from by
        have := (HX.out.own.on (Below.refl _ Y8).drew).bytes (o := 0) (m := 124) (cap := 128) (by rw [hfl]; omega) (by omega) (by unfold maxLen; omega)
        rwa [List.drop_zero, fil_mtake h5] at this)
      have HQ := Lib.hid (sum_any _ _ Y8.drew HD.out)
      have hcr := crc_lt (mhead ms)
      have hfe := mend h5
      generalize crc (mhead ms) = C at *
      have HE := Lib.hid hfe
      have HL := Lib.hid (And.intro h5 hfl)
      clear hfe HD hfl h5
      refine Order.region_begin (S := Turns (fun k => k = g) Y8.drew) (by kernel_rfl) ?_
      refine Order.reads_any (idx := [0, 1]) (by kernel_rfl) (Turns.refl _ _) (fun _ _ _ _ _ h => Order.noPanic_put h) 3 _ _ (by decide +kernel) ?_
      simp only [Order.pick, List.getElem?_toArray, List.getElem?_cons_zero, List.getElem?_cons_succ]
      repeat (first
        | (refine Order.reads_off (by rfl) ?_
           simp only [Act.put, List.setIfInBounds_toArray, List.set_cons_zero, List.set_cons_succ])
        | (apply Order.reads_on
           · rfl
           · intro x hx
             first
               | (go_simp; rfl)
               | (fail
                  go_simp; rfl)
           simp only [Act.put, List.setIfInBounds_toArray, List.set_cons_zero, List.set_cons_succ]))
      refine Order.reads_end ?_
      apply Order.acts_any (R := (Turns (fun k => k = g))) (fun h k => h.trans k fun _ _ h => h) (i := 2)
      · rfl
      · decide +kernel
      · rfl
      unfold Oper.wp
      go_simp
      refine HQ.out.mono ?_
      rintro r1 Z ⟨rfl, hbz⟩
      refine ⟨Turns.of_below hbz, ?_⟩
      have hbz' : Below Y8.heap.size Y8 Z := ((Below.refl Y8.heap.size Y8).drew).trans hbz
      have HP := Lib.hid (put_any g 124 4 4 C 64 _ Z (HX.out.own.on hbz') HL.out.2 (by omega) (by omega) (by omega))
      rw [HE.out] at HP
      have hw : IntKind.i64.wrap (C : Int) = (C : Int) := by rw [IntKind.wrap_i64] <;> omega
      refine Order.reads_any (idx := [3]) (by kernel_rfl) (Turns.refl _ _) (fun _ _ _ _ _ h => Order.noPanic_put h) 1 _ _ (by decide +kernel) ?_
      simp only [Order.pick, List.getElem?_toArray, List.getElem?_cons_zero, List.getElem?_cons_succ]
      repeat (first
        | (refine Order.reads_off (by rfl) ?_
           simp only [Act.put, List.setIfInBounds_toArray, List.set_cons_zero, List.set_cons_succ])
        | (apply Order.reads_on
           · rfl
           · intro x hx
             first
               | (go_simp; rfl)
               | (fail
                  go_simp; rfl)
           simp only [Act.put, List.setIfInBounds_toArray, List.set_cons_zero, List.set_cons_succ]))
      refine Order.reads_end ?_
      apply Order.acts_any (R := (Turns (fun k => k = g))) (fun h k => h.trans k fun _ _ h => h) (i := 4)
      · rfl
      · decide +kernel
      · rfl
      unfold Oper.wp
      go_simp
      first | rw [hw] | skip
      refine HP.out.mono ?_
      rintro r1 Y9 ⟨rfl, ht, hsz, hbk⟩
      refine ⟨ht, ?_⟩
      refine wpAnyH_done (by decide +kernel) ?_ _
      refine NoPanic.normal ?_
      have hs' := HX.out.put (Turns.after_below hbz' ht) hbk
      clear HX HP HE HQ ht hsz hbk hbz hbz' hcr
      have h8 := mkS_len HL.out.1
      generalize mkS ms = S8 at *
      have hs8 := Ta.sec_size h8
      have hi : (Try.prog.info? 64).map (·.size) = some (sec S8).size := by rw [hs8]; exact Ta.info_sec
      have hst := Ta.store_row Y9 R (sec nul) S8 (by rw [hs8]; rfl) hs'.res
      have hrow := setRow_heap Y9 R _ (sec S8) _ _ hs'.res
      have hbf := below_setRow hs'.below (g := R) (by have := hs'.ord; have := hs'.below.size; omega) (sec S8)
      have HE := Lib.hid (And.intro hbf (And.intro hrow hi))
      have HK := Lib.hid hs'.own
      clear hs' hbf hrow hi h8 HL
      go_wp2_with (refine wpList_load_mid rfl 64 (.tmp 3) rfl g 0 rfl (Lib.byteCells S8) _ (fun j v hj => by rw [Nat.zero_add, Lib.cell_of_heap HK.out]; simpa [sec] using hj) Try.underlying64 rfl (by rw [show (Lib.byteCells S8).length = (sec S8).size by simp [sec]]; exact HE.out.2.2) ?_; rw [show (Lib.byteCells S8).toArray = sec S8 from rfl])
      exact bodyPost_ret (v := .agg (sec S8)) (results_cell_row (p := 2) (ty := 64) (by kernel_rfl) _ _ R 64 _ (0, 0) _ rfl HE.out.2.1 Try.underlying64 rfl HE.out.2.2) rfl ⟨by rw [HMs.out], HE.out.1⟩
end Ho
end Go.Proofs.Ytkfmmdiflbnhgaa
