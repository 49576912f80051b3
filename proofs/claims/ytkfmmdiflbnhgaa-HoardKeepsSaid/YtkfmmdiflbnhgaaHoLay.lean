/-
  Layer 14: the program's Lay.
-/
import Derived.Test.YtkfmmdiflbnhgaaHoIm
namespace Go.Proofs.Ytkfmmdiflbnhgaa
set_option maxRecDepth 100000
open Go.RowKit
open Knot (Turns)
open Ta (IsBytes Stay sec nul ptr IsT C5 Tray)
open Sp (S SpB found Opens)
namespace Ho
theorem build_ho (p q : Nat) (s a b c d e : Int) (W : World) : (Instr.build tHo #[(0, .agg #[ptr p, .int .i64 s]), (1, .agg #[.int .i64 a, .int .i64 b, .int .i64 c, .int .i64 d, .int .i64 e]), (2, ptr q)]).run Try.prog W = .ok (.agg #[ptr p, .int .i64 s, .int .i64 a, .int .i64 b, .int .i64 c, .int .i64 d, .int .i64 e, ptr q, .bool false, .bool false]) W := by kernel_rfl
theorem build_pm (L : Int) (W : World) : (Instr.build tPm #[(0, .int .i64 1), (1, .int .i64 1), (3, .int .i64 L)]).run Try.prog W = .ok (.agg #[.int .i64 1, .int .i64 1, .int .i64 0, .int .i64 L, .int .i64 0]) W := by kernel_rfl
section
variable {w0 w x y : World} {p q n : Nat} {t t' : Tray (List UInt8)} {F F3 : Nat → Prop} {s : S}
/-- A tray has been written to beside its spool. -/
theorem sys_wrote (hs : Sp.Sys w y p q n t s F) (ht : Turns F y x) (hi : IsT x p n t' F3) (hF : ∀ k, F3 k → F k ∨ y.heap.size ≤ k) : Sp.Sys w x p q n t' s F3 := by
  refine ⟨hs.below.trans (ht.below hs.below.size fun k hk => hs.new k hk), hi, hs.spool.turn ht hs.off, hs.fits, hs.room, fun e => ?_, fun k hk => ?_, hs.newq⟩
  · rcases hF q e with e | e
    · exact hs.off e
    · have := hs.spool.lt; omega
  · rcases hF k hk with e | e
    · exact hs.new k e
    · exact Nat.le_trans hs.below.size e
theorem ring_opens {head epoch : Nat} (h64 : 64 ≤ n) (hn : n ≤ 4096) (hh : head ≤ 1099511627776) (he : 1 ≤ epoch ∧ epoch ≤ 4294967295) : Opens n ((ringS n head epoch).first : Int) ((ringS n head epoch).count : Int) ((ringS n head epoch).head : Int) ((ringS n head epoch).epoch : Int) := by
  unfold ringS
  have : qu n = (n - 2) / 4 := rfl
  refine ⟨⟨?_, ?_, ?_, ?_⟩, ?_, ?_, ?_, ?_⟩ <;> simp only <;> omega
/-- A tray of too few sectors. -/
theorem lay_range (v : Value) (b : List UInt8) (h : IsT w p n t F) (hv : IsBytes w v b) (h64 : n < 64) : Calls Try.prog 39 #[ptr p, v] w fun e x => e = .returned (.tuple #[.pointer none, .int .i64 1]) ∧ Below w.heap.size w x := by
  obtain ⟨va, vc, rfl, -⟩ := hv
  have HD := Lib.hid (divide_any h)
  rw [if_pos h64] at HD
  clear h h64
  go_enter Try.func39, Try.ntmps39
  go_wp2_with fail
  refine HD.out.mono ?_
  rintro e x ⟨rfl, hx⟩
  have HX := Lib.hid (hx.alloc hx.size (.cells #[.pointer none, .int .i64 0] tDk))
  clear hx HD
  go_wp2_with fail
  exact bodyPost_ret (v := .tuple #[.pointer none, .int .i64 1]) (by simp [results, Try.results39, go_sem]) rfl ⟨rfl, HX.out⟩
/-- One of the first two sectors is a mark. -/
theorem lay_twice (v : Value) (b : List UInt8) (h : IsT w p n t F) (hv : IsBytes w v b) (h64 : 64 ≤ n) (hcn : (cnt t).2 = true) : Calls Try.prog 39 #[ptr p, v] w fun e x => e = .returned (.tuple #[.pointer none, .int .i64 14]) ∧ Below w.heap.size w x := by
  obtain ⟨va, vc, rfl, -⟩ := hv
  have HD := Lib.hid (divide_any h)
  rw [if_neg (show ¬ n < 64 by omega)] at HD
  have HI := Lib.hid h
  have HM := Lib.hid (show ∀ x, Below w.heap.size w x → _ from fun x hx => dmark_any (s := qu n) (h.below hx))
  have hqn : qu n ≤ 4096 := by have := h.num; unfold qu; omega
  clear h
  unfold dkV at HD HM
  go_enter Try.func39, Try.ntmps39
  go_wp2_with fail
  refine HD.out.mono ?_
  rintro e x1 ⟨rfl, hx1⟩
  have hb1 : Below w.heap.size w (x1.alloc (.cells #[ptr p, .int .i64 (qu n : Int)] tDk)) := hx1.alloc hx1.size _
  have hd1 := heap_alloc_new x1 (.cells #[ptr p, .int .i64 (qu n : Int)] tDk)
  go_upto_region 4 with fail
  change Code.wp _ _ _ _ (x1.alloc (.cells #[ptr p, .int .i64 (qu n : Int)] tDk))
  have hDl : x1.heap.size < (x1.alloc (.cells #[ptr p, .int .i64 (qu n : Int)] tDk)).heap.size := by simp
  generalize x1.alloc (.cells #[ptr p, .int .i64 (qu n : Int)] tDk) = X at *
  have hDk := hx1.size
  generalize x1.heap.size = D at *
  clear hx1 HD x1
  have d0 := Lib.cell_of_heap hd1 0
  have d1 := Lib.cell_of_heap hd1 1
  simp only [List.getElem?_toArray, List.getElem?_cons_zero, List.getElem?_cons_succ] at d0 d1
  have HMx := Lib.hid (HM.out X hb1)
  have hml : (cntP t).1.length = 5 := by rw [← acc_two]; exact acc_len t 2
  obtain ⟨m0, m1, m2, m3, m4, hms⟩ := five hml
  have hfl : (cntP t).2 = true := by rw [cntP]; rw [if_pos hcn]; exact hcn
  rw [hms, hfl, mcs5] at HMx
  clear hms hfl hml HM
  go_wp2_with fail
  refine HMx.out.mono ?_
  rintro e x2 ⟨rfl, hx2⟩
  have HX := Lib.hid ((hb1.trans (hx2.mono hb1.size)).alloc (hb1.trans (hx2.mono hb1.size)).size (.cells #[.int .i64 (m0 : Int), .int .i64 (m1 : Int), .int .i64 (m2 : Int), .int .i64 (m3 : Int), .int .i64 (m4 : Int)] tPm))
  clear hx2 hb1 HMx d0 d1
  go_wp2_with fail
  exact bodyPost_ret (v := .tuple #[.pointer none, .int .i64 14]) (by simp [results, Try.results39, go_sem]) rfl ⟨rfl, HX.out⟩
set_option maxHeartbeats 4000000 in
/-- The image has more bytes than a field. -/
theorem lay_full (v : Value) (b : List UInt8) (h : IsT w p n t F) (hv : IsBytes w v b) (h64 : 64 ≤ n) (hcn : (cnt t).2 = false) (hlong : qu n * 128 < b.length) : Calls Try.prog 39 #[ptr p, v] w fun e x => e = .returned (.tuple #[.pointer none, .int .i64 3]) ∧ Below w.heap.size w x := by
  obtain ⟨va, vc, rfl, -⟩ := hv
  have HD := Lib.hid (divide_any h)
  rw [if_neg (show ¬ n < 64 by omega)] at HD
  have HI := Lib.hid h
  have HM := Lib.hid (show ∀ x, Below w.heap.size w x → _ from fun x hx => dmark_any (s := qu n) (h.below hx))
  have hqn : qu n ≤ 4096 := by have := h.num; unfold qu; omega
  clear h
  unfold dkV at HD HM
  go_enter Try.func39, Try.ntmps39
  go_wp2_with fail
  refine HD.out.mono ?_
  rintro e x1 ⟨rfl, hx1⟩
  have hb1 : Below w.heap.size w (x1.alloc (.cells #[ptr p, .int .i64 (qu n : Int)] tDk)) := hx1.alloc hx1.size _
  have hd1 := heap_alloc_new x1 (.cells #[ptr p, .int .i64 (qu n : Int)] tDk)
  go_upto_region 4 with fail
  change Code.wp _ _ _ _ (x1.alloc (.cells #[ptr p, .int .i64 (qu n : Int)] tDk))
  have hDl : x1.heap.size < (x1.alloc (.cells #[ptr p, .int .i64 (qu n : Int)] tDk)).heap.size := by simp
  generalize x1.alloc (.cells #[ptr p, .int .i64 (qu n : Int)] tDk) = X at *
  have hDk := hx1.size
  generalize x1.heap.size = D at *
  clear hx1 HD x1
  have d0 := Lib.cell_of_heap hd1 0
  have d1 := Lib.cell_of_heap hd1 1
  simp only [List.getElem?_toArray, List.getElem?_cons_zero, List.getElem?_cons_succ] at d0 d1
  have HMx := Lib.hid (HM.out X hb1)
  have hml : (cntP t).1.length = 5 := by rw [← acc_two]; exact acc_len t 2
  obtain ⟨m0, m1, m2, m3, m4, hms⟩ := five hml
  have hfl : (cntP t).2 = false := by rw [cntP]; rw [if_neg (by rw [hcn]; decide)]
  rw [hms, hfl, mcs5] at HMx
  clear hms hfl hml HM
  go_wp2_with fail
  refine HMx.out.mono ?_
  rintro e x2 ⟨rfl, hx2⟩
  have hb2 := (hb1.trans (hx2.mono hb1.size)).alloc (hb1.trans (hx2.mono hb1.size)).size (.cells #[.int .i64 (m0 : Int), .int .i64 (m1 : Int), .int .i64 (m2 : Int), .int .i64 (m3 : Int), .int .i64 (m4 : Int)] tPm)
  have hd2 := ((hx2.alloc hx2.size (.cells #[.int .i64 (m0 : Int), .int .i64 (m1 : Int), .int .i64 (m2 : Int), .int .i64 (m3 : Int), .int .i64 (m4 : Int)] tPm)).block D hDl).trans hd1
  clear hx2 hb1 HMx d0 d1 hd1
  obtain ⟨V, hV⟩ : ∃ V, V = x2.alloc (.cells #[.int .i64 (m0 : Int), .int .i64 (m1 : Int), .int .i64 (m2 : Int), .int .i64 (m3 : Int), .int .i64 (m4 : Int)] tPm) := ⟨_, rfl⟩
  rw [← hV] at hb2 hd2
  have HMo := Lib.hid (dmost_any (p := p) (s := qu n) hqn V)
  unfold dkV at HMo
  have d0 := Lib.cell_of_heap hd2 0
  have d1 := Lib.cell_of_heap hd2 1
  simp only [List.getElem?_toArray, List.getElem?_cons_zero, List.getElem?_cons_succ] at d0 d1
  go_upto_region 7 with fail
  rw [← hV]
  clear hV
  have e1 : ((qu n * 128 : Nat) : Int) < (b.length : Int) := by omega
  generalize qu n * 128 = mo at *
  go_wp2_with fail
  refine HMo.out.mono ?_
  rintro e x3 ⟨rfl, hx3⟩
  have HX := Lib.hid (hb2.trans (hx3.mono hb2.size))
  clear hx3 hb2 hd2 HMo d0 d1
  go_wp2_with fail
  exact bodyPost_ret (v := .tuple #[.pointer none, .int .i64 3]) (by simp [results, Try.results39, go_sem]) rfl ⟨rfl, HX.out⟩
/-- What a Lay comes to: a hoard; or a step was refused. -/
def LayP (w0 w : World) (p n : Nat) (t : Tray (List UInt8)) (b : List UInt8) (F : Nat → Prop) (r : Value) (cd : Int) (x : World) : Prop :=
  Turns F w x ∧ (((keepT 2 b (layM b.length) t).2 = 0 ∧ cd = 0 ∧ ∃ q h F', r = ptr h ∧ Hs w0 x h p q n (hlay n t b) F' ∧ ∀ k, F' k → F k ∨ w.heap.size ≤ k) ∨
    ((keepT 2 b (layM b.length) t).2 ≠ 0 ∧ cd = 20 ∧ r = .pointer none ∧ ∃ F', IsT x p n (keepT 2 b (layM b.length) t).1 F' ∧ ∀ k, F' k → F k ∨ w.heap.size ≤ k))
set_option maxHeartbeats 16000000 in
set_option maxRecDepth 100000 in
/-- A hoard is laid, or a step is refused. -/
theorem lay_goes (hw : Below w0.heap.size w0 w) (hF0 : ∀ k, F k → w0.heap.size ≤ k) (v : Value) (b : List UInt8) (h : IsT w p n t F) (hsv : Stay F w fun x => IsBytes x v b) (h64 : 64 ≤ n) (hcn : (cnt t).2 = false) (hlong : ¬ qu n * 128 < b.length) (hc : t.cache.length ≤ 80000) :
    Calls Try.prog 39 #[ptr p, v] w fun e x => ∃ r cd, e = .returned (.tuple #[r, .int .i64 cd]) ∧ LayP w0 w p n t b F r cd x := by
  have hv := hsv.now
  obtain ⟨va, vc, rfl, -⟩ := hv
  have HD := Lib.hid (divide_any h)
  rw [if_neg (show ¬ n < 64 by omega)] at HD
  have HI := Lib.hid h
  have HM := Lib.hid (show ∀ x, Below w.heap.size w x → _ from fun x hx => dmark_any (s := qu n) (h.below hx))
  have hqn : qu n ≤ 4096 := by have := h.num; unfold qu; omega
  clear h
  unfold dkV at HD HM
  go_enter Try.func39, Try.ntmps39
  go_wp2_with fail
  refine HD.out.mono ?_
  rintro e x1 ⟨rfl, hx1⟩
  have hb1 : Below w.heap.size w (x1.alloc (.cells #[ptr p, .int .i64 (qu n : Int)] tDk)) := hx1.alloc hx1.size _
  have hd1 := heap_alloc_new x1 (.cells #[ptr p, .int .i64 (qu n : Int)] tDk)
  go_upto_region 4 with fail
  change Code.wp _ _ _ _ (x1.alloc (.cells #[ptr p, .int .i64 (qu n : Int)] tDk))
  have hDl : x1.heap.size < (x1.alloc (.cells #[ptr p, .int .i64 (qu n : Int)] tDk)).heap.size := by simp
  generalize x1.alloc (.cells #[ptr p, .int .i64 (qu n : Int)] tDk) = X at *
  have hDk := hx1.size
  generalize x1.heap.size = D at *
  clear hx1 HD x1
  have d0 := Lib.cell_of_heap hd1 0
  have d1 := Lib.cell_of_heap hd1 1
  simp only [List.getElem?_toArray, List.getElem?_cons_zero, List.getElem?_cons_succ] at d0 d1
  have HMx := Lib.hid (HM.out X hb1)
  have hml : (cntP t).1.length = 5 := by rw [← acc_two]; exact acc_len t 2
  obtain ⟨m0, m1, m2, m3, m4, hms⟩ := five hml
  have hfl : (cntP t).2 = false := by rw [cntP]; rw [if_neg (by rw [hcn]; decide)]
  rw [hms, hfl, mcs5] at HMx
  clear hms hfl hml HM
  go_wp2_with fail
  refine HMx.out.mono ?_
  rintro e x2 ⟨rfl, hx2⟩
  have hb2 := (hb1.trans (hx2.mono hb1.size)).alloc (hb1.trans (hx2.mono hb1.size)).size (.cells #[.int .i64 (m0 : Int), .int .i64 (m1 : Int), .int .i64 (m2 : Int), .int .i64 (m3 : Int), .int .i64 (m4 : Int)] tPm)
  have hd2 := ((hx2.alloc hx2.size (.cells #[.int .i64 (m0 : Int), .int .i64 (m1 : Int), .int .i64 (m2 : Int), .int .i64 (m3 : Int), .int .i64 (m4 : Int)] tPm)).block D hDl).trans hd1
  clear hx2 hb1 HMx d0 d1 hd1
  obtain ⟨V, hV⟩ : ∃ V, V = x2.alloc (.cells #[.int .i64 (m0 : Int), .int .i64 (m1 : Int), .int .i64 (m2 : Int), .int .i64 (m3 : Int), .int .i64 (m4 : Int)] tPm) := ⟨_, rfl⟩
  rw [← hV] at hb2 hd2
  have HMo := Lib.hid (dmost_any (p := p) (s := qu n) hqn V)
  unfold dkV at HMo
  have d0 := Lib.cell_of_heap hd2 0
  have d1 := Lib.cell_of_heap hd2 1
  simp only [List.getElem?_toArray, List.getElem?_cons_zero, List.getElem?_cons_succ] at d0 d1
  go_upto_region 7 with fail
  rw [← hV]
  clear hV
  have e1 : ¬ ((qu n * 128 : Nat) : Int) < (b.length : Int) := by omega
  have hlo : b.length ≤ qu n * 128 := by omega
  generalize hmo : qu n * 128 = mo at *
  have HMq := Lib.hid hmo
  clear hmo hlong
  go_wp2_with fail
  refine HMo.out.mono ?_
  rintro e x3 ⟨rfl, hx3⟩
  have hbp := build_pm
  have hb3 := hb2.trans (hx3.mono hb2.size)
  have hd3 := (hx3.block D (Array.getElem?_eq_some_iff.1 hd2).1).trans hd2
  clear hx3 hb2 hd2 HMo d0 d1
  obtain ⟨Y, hY⟩ : ∃ Y, Y = x3.alloc (.cells #[.int .i64 1, .int .i64 1, .int .i64 0, .int .i64 (b.length : Int), .int .i64 0] tPm) := ⟨_, rfl⟩
  have hMk : w.heap.size ≤ x3.heap.size := hb3.size
  have HY := Lib.hid (show Below w.heap.size w Y ∧ Y.heap[D]? = some (.cells #[ptr p, .int .i64 (qu n : Int)] tDk (0, 0)) ∧ C5 x3.heap.size tPm (.int .i64 1) (.int .i64 1) (.int .i64 0) (.int .i64 (b.length : Int)) (.int .i64 0) Y from by
    rw [hY]
    exact ⟨hb3.alloc hb3.size _, (((Below.refl _ _).alloc (Nat.le_refl _) _ : Below x3.heap.size x3 (x3.alloc (.cells #[.int .i64 1, .int .i64 1, .int .i64 0, .int .i64 (b.length : Int), .int .i64 0] tPm))).block D (Array.getElem?_eq_some_iff.1 hd3).1).trans hd3, heap_alloc_new x3 _⟩)
  go_upto_region 10 with fail
  change Code.wp _ _ _ _ (x3.alloc (.cells #[.int .i64 1, .int .i64 1, .int .i64 0, .int .i64 (b.length : Int), .int .i64 0] tPm))
  rw [← hY]
  clear hY hbp hb3 hd3
  generalize x3.heap.size = M at *
  have HF := Lib.hid (show ∀ z, Below Y.heap.size Y z → (z.cell? ⟨D, 0, none⟩ = some (ptr p) ∧ z.cell? ⟨D, 1, none⟩ = some (.int .i64 (qu n : Int))) ∧ C5 M tPm (.int .i64 1) (.int .i64 1) (.int .i64 0) (.int .i64 (b.length : Int)) (.int .i64 0) z from fun z hz => by
    have h1 := (hz.block D (Array.getElem?_eq_some_iff.1 HY.out.2.1).1).trans HY.out.2.1
    refine ⟨⟨?_, ?_⟩, HY.out.2.2.on hz⟩ <;> (rw [Lib.cell_of_heap h1]; rfl)
  )
  have HRg := Lib.hid (show ∀ z, Below Y.heap.size Y z → _ from fun z hz => dring_any (HI.out.below (HY.out.1.trans (hz.mono HY.out.1.size))) h64)
  have HOp := Lib.hid (show ∀ z, Below Y.heap.size Y z → _ from fun z hz => Sp.sys_open (w := w0) (s := ringS n 0 1) ((hw.trans (HY.out.1.mono hw.size)).trans (hz.mono (Nat.le_trans hw.size HY.out.1.size))) (HI.out.below (HY.out.1.trans (hz.mono HY.out.1.size))) hF0 rfl rfl (ring_opens h64 HI.out.num.2 (by omega) ⟨by omega, by omega⟩))
  change Hid (∀ z, Below Y.heap.size Y z → Calls _ _ #[ptr p, .agg #[.int .i64 ((2 + 2 * qu n : Nat) : Int), .int .i64 ((n - (2 + 2 * qu n) : Nat) : Int)], .int .i64 0, .int .i64 1] z fun e y => ∃ q v, e = .returned (.tuple #[ptr q, v, .int .i64 0]) ∧ Below z.heap.size z y ∧ z.heap.size ≤ q ∧ Sp.Sys w0 y p q n t (ringF t n 0 1) F ∧ _) at HOp
  unfold dkV at HRg
  obtain ⟨rf, hrf⟩ : ∃ f, f = 2 + 2 * qu n := ⟨_, rfl⟩
  rw [← hrf] at HRg HOp
  obtain ⟨rn, hrn⟩ : ∃ f, f = n - rf := ⟨_, rfl⟩
  rw [← hrn] at HRg HOp
  clear hrf hrn
  refine Order.region_begin (S := Order.Fresh Y.drew) (by kernel_rfl) ?_
  refine Order.reads_any (idx := [0, 1, 3, 4, 5, 6]) (by kernel_rfl) (Order.Fresh.refl _) (fun _ _ _ _ _ h => Order.noPanic_put h) 9 _ _ (by decide +kernel) ?_
  simp only [Order.pick, List.getElem?_toArray, List.getElem?_cons_zero, List.getElem?_cons_succ]
  repeat (first
    | (refine Order.reads_off (by rfl) ?_
       simp only [Act.put, List.setIfInBounds_toArray, List.set_cons_zero, List.set_cons_succ])
    | (apply Order.reads_on
       · rfl
       · intro x hx
         first
           | (go_simp; rfl)
           | (obtain ⟨⟨g0, g1⟩, hm5⟩ := HF.out x ((Below.refl Y.heap.size Y).drew.trans hx)
              obtain ⟨c0, c1, c2, c3, c4⟩ := hm5.cells
              go_simp; rfl)
       simp only [Act.put, List.setIfInBounds_toArray, List.set_cons_zero, List.set_cons_succ]))
  refine Order.reads_end ?_
  apply Order.acts_any (R := Order.Fresh) Order.Fresh.trans (i := 2)
  · rfl
  · decide +kernel
  · rfl
  unfold Oper.wp
  go_simp
  refine (HRg.out _ (Below.refl _ _).drew).mono ?_
  rintro e z1 ⟨rfl, hz1⟩
  refine ⟨hz1, ?_⟩
  have hz1' : Below Y.heap.size Y z1 := (Below.refl Y.heap.size Y).drew.trans hz1
  apply Order.acts_any (R := Order.Fresh) Order.Fresh.trans (i := 7)
  · rfl
  · decide +kernel
  · rfl
  unfold Oper.wp
  go_simp
  refine (HOp.out z1 hz1').mono ?_
  rintro e z2 ⟨q, vr, rfl, hz2, hq, hsys, hrecs⟩
  refine ⟨hz2, ?_⟩
  have hz2' : Below Y.heap.size Y z2 := hz1'.trans (hz2.mono hz1'.size)
  refine Order.reads_any (idx := [8, 9, 10, 11, 12, 13, 14]) (by kernel_rfl) (Order.Fresh.refl _) (fun _ _ _ _ _ h => Order.noPanic_put h) 0 _ _ (by decide +kernel) ?_
  simp only [Order.pick, List.getElem?_toArray, List.getElem?_cons_zero, List.getElem?_cons_succ]
  repeat (first
    | (refine Order.reads_off (by rfl) ?_
       simp only [Act.put, List.setIfInBounds_toArray, List.set_cons_zero, List.set_cons_succ])
    | (apply Order.reads_on
       · rfl
       · intro x hx
         first
           | (go_simp; rfl)
           | (fail
              go_simp; rfl)
       simp only [Act.put, List.setIfInBounds_toArray, List.set_cons_zero, List.set_cons_succ]))
  refine Order.reads_end ?_
  refine wpAnyH_done (by decide +kernel) ?_ _
  refine NoPanic.normal ?_
  have hkp := keep_any 1 1 0 b.length 0 (.slice va b.length vc) b hsys.tray h64 (by simp only [List.mem_cons, List.not_mem_nil, or_false]; have := HMq.out; rintro m (rfl | rfl | rfl | rfl | rfl) <;> omega) (by omega) (hsv.below (HY.out.1.trans (hz2'.mono HY.out.1.size))) (by rw [HMq.out]; exact hlo) hc
  rw [show 2 + 0 * qu n = 2 by omega, mcs5, show ((1 : Nat) : Int) = 1 from rfl, show ((0 : Nat) : Int) = 0 from rfl] at hkp
  change Calls _ _ _ _ fun e x => e = .returned (.bool (decide ((keepT 2 b (layM b.length) t).2 = 0))) ∧ Turns F z2 x ∧ ∃ F', IsT x p n (keepT 2 b (layM b.length) t).1 F' ∧ _ at hkp
  unfold dkV at hkp
  have HPo := Lib.hid (show ∀ r cd x, LayP w0 w p n t b F r cd x ↔ Turns F w x ∧ (((keepT 2 b (layM b.length) t).2 = 0 ∧ cd = 0 ∧ ∃ q h F', r = ptr h ∧ Hs w0 x h p q n (hlay n t b) F' ∧ ∀ k, F' k → F k ∨ w.heap.size ≤ k) ∨ ((keepT 2 b (layM b.length) t).2 ≠ 0 ∧ cd = 20 ∧ r = .pointer none ∧ ∃ F', IsT x p n (keepT 2 b (layM b.length) t).1 F' ∧ ∀ k, F' k → F k ∨ w.heap.size ≤ k)) from fun _ _ _ => Iff.rfl)
  have HLy := Lib.hid (show hlay n t b = ⟨(keepT 2 b (layM b.length) t).1, layM b.length, ringF t n 0 1, false, false⟩ from rfl)
  generalize keepT 2 b (layM b.length) t = K at *
  have HKp := Lib.hid hkp
  have HZ := Lib.hid (And.intro hsys (And.intro hz2' hq))
  obtain ⟨⟨g0, g1⟩, hm5⟩ := HF.out z2 hz2'
  obtain ⟨c0, c1, c2, c3, c4⟩ := hm5.cells
  have h00 : ((0 : Int) != 0) = false := rfl
  clear hkp hsys hz1 hz1' hz2 hz2' hq hrecs hm5 HF HRg HOp
  go_wp2_with fail
  refine HKp.out.mono ?_
  rintro e x4 ⟨rfl, ht4, F4, hi4, hF4⟩
  have hs4 := sys_wrote HZ.out.1 ht4 hi4 hF4
  have hwz : Below w.heap.size w z2 := HY.out.1.trans (HZ.out.2.1.mono HY.out.1.size)
  have HE := Lib.hid (show Turns F w x4 ∧ IsT x4 p n K.1 F4 ∧ Sp.Sys w0 x4 p q n K.1 (ringF t n 0 1) F4 ∧ (∀ k, F4 k → F k ∨ w.heap.size ≤ k) from ⟨(Turns.of_below hwz).trans ht4 fun _ _ h => h, hi4, hs4, fun k hk => (hF4 k hk).imp id fun h => Nat.le_trans hwz.size h⟩)
  have hgD := ht4.heap (show z2.heap[D]? = some (.cells #[ptr p, .int .i64 (qu n : Int)] tDk (0, 0)) from (HZ.out.2.1.block D (Array.getElem?_eq_some_iff.1 HY.out.2.1).1).trans HY.out.2.1) (fun hk => by have := HI.out.low D hk; omega)
  have hgM := (HY.out.2.2.on HZ.out.2.1).turn ht4 (fun hk => by have := HI.out.low M hk; omega)
  clear ht4 hi4 hF4 hs4 hwz g0 g1 c0 c1 c2 c3 c4 HKp
  by_cases hok : K.2 = 0
  · rw [decide_eq_true hok]
    have g0 := Lib.cell_of_heap hgD 0
    have g1 := Lib.cell_of_heap hgD 1
    simp only [List.getElem?_toArray, List.getElem?_cons_zero, List.getElem?_cons_succ] at g0 g1
    obtain ⟨c0, c1, c2, c3, c4⟩ := hgM.cells
    have hbh := build_ho
    have HOk := Lib.hid hok
    clear hgD hgM hok
    have hal : Below x4.heap.size x4 (x4.alloc (.cells #[ptr p, .int .i64 (qu n : Int), .int .i64 1, .int .i64 1, .int .i64 0, .int .i64 (b.length : Int), .int .i64 0, ptr q, .bool false, .bool false] tHo)) := (Below.refl _ _).alloc (Nat.le_refl _) _
    have hnw := heap_alloc_new x4 (.cells #[ptr p, .int .i64 (qu n : Int), .int .i64 1, .int .i64 1, .int .i64 0, .int .i64 (b.length : Int), .int .i64 0, ptr q, .bool false, .bool false] tHo)
    have hsz := HE.out.2.2.1.below.size
    have hfin : Hs w0 (x4.alloc (.cells #[ptr p, .int .i64 (qu n : Int), .int .i64 1, .int .i64 1, .int .i64 0, .int .i64 (b.length : Int), .int .i64 0, ptr q, .bool false, .bool false] tHo)) x4.heap.size p q n (hlay n t b) F4 := ⟨by rw [HLy.out]; exact HE.out.2.2.1.on hal, by rw [HLy.out]; exact hnw, ⟨fun hk => by have := HE.out.2.1.low _ hk; omega, fun e => by have := HE.out.2.2.1.spool.lt; omega, hsz⟩, h64, by rw [HLy.out]; exact Nat.zero_le _, by rw [HLy.out]; exact ⟨show 1 < 1152921504606846976 by decide, show 1 < 1152921504606846976 by decide⟩⟩
    have HFi := Lib.hid (And.intro hfin (HE.out.1.trans (Turns.of_below hal) (fun _ _ h => h) : Turns F w (x4.alloc (.cells #[ptr p, .int .i64 (qu n : Int), .int .i64 1, .int .i64 1, .int .i64 0, .int .i64 (b.length : Int), .int .i64 0, ptr q, .bool false, .bool false] tHo))))
    clear hal hnw hsz hfin
    go_wp2_with fail
    change bodyPost _ _ _ _ _ (x4.alloc (.cells #[ptr p, .int .i64 (qu n : Int), .int .i64 1, .int .i64 1, .int .i64 0, .int .i64 (b.length : Int), .int .i64 0, ptr q, .bool false, .bool false] tHo))
    refine bodyPost_ret (v := .tuple #[ptr x4.heap.size, .int .i64 0]) (by simp [results, Try.results39, go_sem]) rfl ⟨_, _, rfl, (HPo.out _ _ _).2 ⟨HFi.out.2, .inl ⟨HOk.out, rfl, q, x4.heap.size, F4, rfl, HFi.out.1, HE.out.2.2.2⟩⟩⟩
  · rw [decide_eq_false hok]
    have HOk := Lib.hid hok
    clear hgD hgM hok
    go_wp2_with fail
    refine bodyPost_ret (v := .tuple #[.pointer none, .int .i64 20]) (by simp [results, Try.results39, go_sem]) rfl ⟨_, _, rfl, (HPo.out _ _ _).2 ⟨HE.out.1, .inr ⟨HOk.out, rfl, rfl, F4, HE.out.2.1, HE.out.2.2.2⟩⟩⟩
end
end Ho
end Go.Proofs.Ytkfmmdiflbnhgaa
