/-
  Layer 14: the program's Open.
-/
import Derived.Test.YtkfmmdiflbnhgaaHoLay
namespace Go.Proofs.Ytkfmmdiflbnhgaa
set_option maxRecDepth 100000
open Go.RowKit
open Knot (Turns)
open Ta (IsBytes Stay sec nul ptr IsT C5 Tray)
open Sp (S SpB found Opens Recs)
namespace Ho
section
variable {w0 w x y : World} {p q n : Nat} {t t' : Tray (List UInt8)} {F F3 : Nat → Prop} {s : S}
/-- Blocks of G turn, among which the row isn't. -/
theorem recs_go {B : Nat} {G G' : Nat → Prop} {v : Value} {L : List (List UInt8)} (h : Recs B G x v L) (ht : Turns G x y) (hr : ∀ k, v.ownBlock = some k → ¬ G k) (hG : ∀ k, k < x.heap.size → G' k → G k) : Recs B G' y v L := by
  obtain ⟨vs, h1, h2⟩ := h
  refine ⟨vs, Tr.own_turn h1 ht hr, fun i hi => ?_⟩
  obtain ⟨u, hu, hs⟩ := h2 i hi
  exact ⟨u, hu, hs.grow (ht.mono fun _ _ h => .inl h) fun k hk h => h.imp (hG k hk) id⟩
theorem recs_base {B B' : Nat} {G : Nat → Prop} {v : Value} {L : List (List UInt8)} (h : Recs B G x v L) (hB : B' ≤ B) : Recs B' G x v L := by
  obtain ⟨vs, h1, h2⟩ := h
  exact ⟨vs, Ta.own_base h1 hB, h2⟩
theorem cnt_lt (h : IsT w p n t F) : ∀ m ∈ (cnt t).1, m < 281474976710656 := by
  unfold cnt
  split
  · exact mkO_lt (Ta.read_len h 0)
  · exact mkO_lt (Ta.read_len h 1)
set_option maxHeartbeats 4000000 in
/-- Neither of the first two sectors is a mark. -/
theorem open_none (h : IsT w p n t F) (h64 : 64 ≤ n) (hcn : (cnt t).2 = false) : Calls Try.prog 45 #[ptr p] w fun e x => e = .returned (.tuple #[.pointer none, .slice none 0 0, .slice none 0 0, .int .i64 19]) ∧ Below w.heap.size w x := by
  have HD := Lib.hid (divide_any h)
  rw [if_neg (show ¬ n < 64 by omega)] at HD
  have HI := Lib.hid h
  have HM := Lib.hid (show ∀ x, Below w.heap.size w x → _ from fun x hx => dmark_any (s := qu n) (h.below hx))
  have hlt := cnt_lt h
  have hqn : qu n ≤ 4096 := by have := h.num; unfold qu; omega
  clear h
  unfold dkV at HD HM
  go_enter Try.func45, Try.ntmps45
  go_wp2_with fail
  refine HD.out.mono ?_
  rintro e x1 ⟨rfl, hx1⟩
  have hb1 : Below w.heap.size w (x1.alloc (.cells #[ptr p, .int .i64 (qu n : Int)] tDk)) := hx1.alloc hx1.size _
  have hd1 := heap_alloc_new x1 (.cells #[ptr p, .int .i64 (qu n : Int)] tDk)
  go_upto_region 4 with fail
  change Code.wp _ _ _ _ (x1.alloc (.cells #[ptr p, .int .i64 (qu n : Int)] tDk))
  have hDl : x1.heap.size < (x1.alloc (.cells #[ptr p, .int .i64 (qu n : Int)] tDk)).heap.size := by simp
  generalize x1.alloc (.cells #[ptr p, .int .i64 (qu n : Int)] tDk) = X at *
  have hDk := hx1.size
  generalize x1.heap.size = D at *
  clear hx1 HD x1
  have d0 := Lib.cell_of_heap hd1 0
  have d1 := Lib.cell_of_heap hd1 1
  simp only [List.getElem?_toArray, List.getElem?_cons_zero, List.getElem?_cons_succ] at d0 d1
  have HMx := Lib.hid (HM.out X hb1)
  have hml : (cntP t).1.length = 5 := by rw [← acc_two]; exact acc_len t 2
  obtain ⟨m0, m1, m2, m3, m4, hms⟩ := five hml
  have hfl : (cntP t).2 = false := by rw [cntP]; rw [if_neg (by rw [hcn]; decide)]
  rw [hms, hfl, mcs5] at HMx
  clear hms hfl hml HM
  go_wp2_with fail
  refine HMx.out.mono ?_
  rintro e x2 ⟨rfl, hx2⟩
  have HX := Lib.hid ((hb1.trans (hx2.mono hb1.size)).alloc (hb1.trans (hx2.mono hb1.size)).size (.cells #[.int .i64 (m0 : Int), .int .i64 (m1 : Int), .int .i64 (m2 : Int), .int .i64 (m3 : Int), .int .i64 (m4 : Int)] tPm))
  clear hx2 hb1 HMx d0 d1
  go_wp2_with fail
  exact bodyPost_ret (v := .tuple #[.pointer none, .slice none 0 0, .slice none 0 0, .int .i64 19]) (by simp [results, Try.results45, go_sem]) rfl ⟨rfl, HX.out⟩
/-- The mark that is to be set: its box behind the first steps. -/
def Ob (w : World) (p n D M a0 a1 a2 a3 a4 : Nat) (x : World) : Prop :=
  Below w.heap.size w x ∧ x.heap[D]? = some (.cells #[ptr p, .int .i64 (qu n : Int)] tDk (0, 0)) ∧ C5 M tPm (.int .i64 (a0 : Int)) (.int .i64 (a1 : Int)) (.int .i64 (a2 : Int)) (.int .i64 (a3 : Int)) (.int .i64 (a4 : Int)) x ∧ w.heap.size ≤ D ∧ w.heap.size ≤ M
set_option maxHeartbeats 16000000 in
set_option maxRecDepth 100000 in
theorem open_rot (hw : Below w0.heap.size w0 w) (hF0 : ∀ k, F k → w0.heap.size ≤ k) (h : IsT w p n t F) (h64 : 64 ≤ n) (hcn : (cnt t).2 = true) (hr : Rot n (cnt t).1) : Calls Try.prog 45 #[ptr p] w fun e x => e = .returned (.tuple #[.pointer none, .slice none 0 0, .slice none 0 0, .int .i64 21]) ∧ Below w.heap.size w x := by
  have HD := Lib.hid (divide_any h)
  rw [if_neg (show ¬ n < 64 by omega)] at HD
  have HI := Lib.hid h
  have HM := Lib.hid (show ∀ x, Below w.heap.size w x → _ from fun x hx => dmark_any (s := qu n) (h.below hx))
  have hlt := cnt_lt h
  have hqn : qu n ≤ 4096 := by have := h.num; unfold qu; omega
  clear h
  unfold dkV at HD HM
  go_enter Try.func45, Try.ntmps45
  go_wp2_with fail
  refine HD.out.mono ?_
  rintro e x1 ⟨rfl, hx1⟩
  have hb1 : Below w.heap.size w (x1.alloc (.cells #[ptr p, .int .i64 (qu n : Int)] tDk)) := hx1.alloc hx1.size _
  have hd1 := heap_alloc_new x1 (.cells #[ptr p, .int .i64 (qu n : Int)] tDk)
  go_upto_region 4 with fail
  change Code.wp _ _ _ _ (x1.alloc (.cells #[ptr p, .int .i64 (qu n : Int)] tDk))
  have hDl : x1.heap.size < (x1.alloc (.cells #[ptr p, .int .i64 (qu n : Int)] tDk)).heap.size := by simp
  generalize x1.alloc (.cells #[ptr p, .int .i64 (qu n : Int)] tDk) = X at *
  have hDk := hx1.size
  generalize x1.heap.size = D at *
  clear hx1 HD x1
  have d0 := Lib.cell_of_heap hd1 0
  have d1 := Lib.cell_of_heap hd1 1
  simp only [List.getElem?_toArray, List.getElem?_cons_zero, List.getElem?_cons_succ] at d0 d1
  have HMx := Lib.hid (HM.out X hb1)
  have hml : (cntP t).1.length = 5 := by rw [← acc_two]; exact acc_len t 2
  have hcp : cntP t = cnt t := by rw [cntP, if_pos hcn]
  rw [hcp] at hml HMx
  obtain ⟨m0, m1, m2, m3, m4, hms⟩ := five hml
  have HMs := Lib.hid hms
  rw [hms] at hlt
  have hl0 : m0 < 281474976710656 := hlt m0 (by simp)
  have hl1 : m1 < 281474976710656 := hlt m1 (by simp)
  rw [hms, hcn, mcs5] at HMx
  have HNx := Lib.hid (show ∀ x, _ from fun x => next_any m0 m1 m2 m3 m4 (by omega) x)
  rw [mcs5, mcs5] at HNx
  clear hms hml HM hcp
  go_wp2_with fail
  refine HMx.out.mono ?_
  rintro e x2 ⟨rfl, hx2⟩
  obtain ⟨V, hV⟩ : ∃ V, V = x2.alloc (.cells #[.int .i64 (m0 : Int), .int .i64 (m1 : Int), .int .i64 (m2 : Int), .int .i64 (m3 : Int), .int .i64 (m4 : Int)] tPm) := ⟨_, rfl⟩
  have hVs : Below x2.heap.size x2 V := by rw [hV]; exact (Below.refl _ _).alloc (Nat.le_refl _) _
  have hcM : C5 x2.heap.size tPm (.int .i64 (m0 : Int)) (.int .i64 (m1 : Int)) (.int .i64 (m2 : Int)) (.int .i64 (m3 : Int)) (.int .i64 (m4 : Int)) V := by rw [hV]; exact heap_alloc_new x2 _
  have hb2 : Below w.heap.size w V := (hb1.trans (hx2.mono hb1.size)).trans (hVs.mono (Nat.le_trans hb1.size hx2.size))
  have hd2 := ((hx2.trans (hVs.mono hx2.size)).block D hDl).trans hd1
  have hMw : w.heap.size ≤ x2.heap.size := Nat.le_trans hb1.size hx2.size
  have hDM : D < x2.heap.size := Nat.lt_of_lt_of_le hDl hx2.size
  clear hx2 hb1 HMx d0 d1 hd1 hVs hDl
  obtain ⟨c0, c1, c2, c3, c4⟩ := hcM.cells
  go_upto_region 7 with fail
  rw [← hV]
  clear hV
  generalize x2.heap.size = M at *
  clear x2
  go_wp2_with fail
  refine (HNx.out V).mono ?_
  rintro e x3 ⟨rfl, hx3⟩
  have hc3 := hcM.on hx3
  have hd3 := (hx3.block D (Array.getElem?_eq_some_iff.1 hd2).1).trans hd2
  have hb3 := hb2.trans (hx3.mono hb2.size)
  clear c0 c1 c2 c3 c4 HNx hx3 hcM hd2 hb2
  obtain ⟨c0, c1, c2, c3, c4⟩ := hc3.cells
  obtain ⟨f0, f1, f2, f3, f4⟩ := hc3.free
  obtain ⟨N, hN⟩ : ∃ N, N = (Ta.st5 x3 M (.int .i64 ((m0 : Int) + 1)) (.int .i64 (m1 : Int)) (.int .i64 (m2 : Int)) (.int .i64 (m3 : Int)) (.int .i64 (m4 : Int))).setCell ⟨M, 1, none⟩ (.int .i64 ((m1 : Int) + 1)) := ⟨_, rfl⟩
  have hNt : Turns (fun k => k = M) x3 N := by
    rw [hN]
    exact (Ta.st5_turns x3 M (.int .i64 ((m0 : Int) + 1)) (.int .i64 (m1 : Int)) (.int .i64 (m2 : Int)) (.int .i64 (m3 : Int)) (.int .i64 (m4 : Int))).setCell (p := ⟨M, 1, none⟩) rfl _
  have HOb := Lib.hid (show Ob w p n D M (m0 + 1) (m1 + 1) m2 m3 m4 N from ⟨hb3.trans (hNt.below hb3.size fun k e => by omega), hNt.heap hd3 (by omega), by rw [hN]; exact heap_setCell_same _ M 1 _ _ _ (hc3.put (.int .i64 ((m0 : Int) + 1)) (.int .i64 (m1 : Int)) (.int .i64 (m2 : Int)) (.int .i64 (m3 : Int)) (.int .i64 (m4 : Int))), by omega, hMw⟩)
  unfold Ta.st5 at hN
  go_upto_region 9 with fail
  rw [← hN]
  clear hN hNt hb3 hd3 hc3 c0 c1 c2 c3 c4 f0 f1 f2 f3 f4
  have HF := Lib.hid (show ∀ z, Below N.heap.size N z → (z.cell? ⟨D, 0, none⟩ = some (ptr p) ∧ z.cell? ⟨D, 1, none⟩ = some (.int .i64 (qu n : Int))) ∧ C5 M tPm (.int .i64 ((m0 + 1 : Nat) : Int)) (.int .i64 ((m1 + 1 : Nat) : Int)) (.int .i64 (m2 : Int)) (.int .i64 (m3 : Int)) (.int .i64 (m4 : Int)) z from fun z hz => by
    have h1 := (hz.block D (Array.getElem?_eq_some_iff.1 HOb.out.2.1).1).trans HOb.out.2.1
    refine ⟨⟨?_, ?_⟩, HOb.out.2.2.1.on hz⟩ <;> (rw [Lib.cell_of_heap h1]; rfl)
  )
  have HIz := Lib.hid (show ∀ z, Below N.heap.size N z → IsT z p n t F from fun z hz => HI.out.below (HOb.out.1.trans (hz.mono HOb.out.1.size)))
  have HRg := Lib.hid (show ∀ z, Below N.heap.size N z → _ from fun z hz => dring_any (HIz.out z hz) h64)
  unfold dkV at HRg
  have hrt : 1 < m2 ∨ qu n * 128 < m3 ∨ 4294967295 < m1 + 1 ∨ 1099511627776 < m4 := by have h := hr; rw [HMs.out] at h; exact h
  by_cases hbad : ¬ (m4 ≤ 1099511627776 ∧ m1 + 1 ≤ 4294967295)
  · have HOp := Lib.hid (show ∀ z, Below N.heap.size N z → Calls _ _ #[ptr p, .agg #[.int .i64 ((2 + 2 * qu n : Nat) : Int), .int .i64 ((n - (2 + 2 * qu n) : Nat) : Int)], .int .i64 (m4 : Int), .int .i64 ((m1 : Int) + 1)] z fun e x => e = .returned (.tuple #[.pointer none, .slice none 0 0, .int .i64 1]) ∧ Below z.heap.size z x from fun z hz => Sp.open_bad (by have := HI.out.num; omega) (by have := HI.out.num; omega) (HIz.out z hz) (fun ho => hbad ⟨by have := ho.2.2.1; omega, by have := ho.2.2.2.2; omega⟩))
    obtain ⟨rf, hrf⟩ : ∃ f, f = 2 + 2 * qu n := ⟨_, rfl⟩
    rw [← hrf] at HRg HOp
    obtain ⟨rn, hrn⟩ : ∃ f, f = n - rf := ⟨_, rfl⟩
    rw [← hrn] at HRg HOp
    clear hrf hrn
    refine Order.region_begin (S := Order.Fresh N.drew) (by kernel_rfl) ?_
    refine Order.reads_any (idx := [0, 1, 3, 4, 5, 6]) (by kernel_rfl) (Order.Fresh.refl _) (fun _ _ _ _ _ h => Order.noPanic_put h) 9 _ _ (by decide +kernel) ?_
    simp only [Order.pick, List.getElem?_toArray, List.getElem?_cons_zero, List.getElem?_cons_succ]
    repeat (first
      | (refine Order.reads_off (by rfl) ?_
         simp only [Act.put, List.setIfInBounds_toArray, List.set_cons_zero, List.set_cons_succ])
      | (apply Order.reads_on
         · rfl
         · intro x hx
           first
             | (go_simp; rfl)
             | (obtain ⟨⟨g0, g1⟩, hm5⟩ := HF.out x ((Below.refl N.heap.size N).drew.trans hx)
                obtain ⟨c0, c1, c2, c3, c4⟩ := hm5.cells
                go_simp; rfl)
         simp only [Act.put, List.setIfInBounds_toArray, List.set_cons_zero, List.set_cons_succ]))
    refine Order.reads_end ?_
    apply Order.acts_any (R := Order.Fresh) Order.Fresh.trans (i := 2)
    · rfl
    · decide +kernel
    · rfl
    unfold Oper.wp
    go_simp
    refine (HRg.out _ (Below.refl _ _).drew).mono ?_
    rintro e z1 ⟨rfl, hz1⟩
    refine ⟨hz1, ?_⟩
    have hz1' : Below N.heap.size N z1 := (Below.refl N.heap.size N).drew.trans hz1
    apply Order.acts_any (R := Order.Fresh) Order.Fresh.trans (i := 7)
    · rfl
    · decide +kernel
    · rfl
    unfold Oper.wp
    go_simp
    refine (HOp.out z1 hz1').mono ?_
    rintro e z2 ⟨rfl, hz2⟩
    refine ⟨hz2, ?_⟩
    have hz2' : Below N.heap.size N z2 := hz1'.trans (hz2.mono hz1'.size)
    refine Order.reads_any (idx := [8, 9, 10, 11, 12, 13, 14]) (by kernel_rfl) (Order.Fresh.refl _) (fun _ _ _ _ _ h => Order.noPanic_put h) 0 _ _ (by decide +kernel) ?_
    simp only [Order.pick, List.getElem?_toArray, List.getElem?_cons_zero, List.getElem?_cons_succ]
    repeat (first
      | (refine Order.reads_off (by rfl) ?_
         simp only [Act.put, List.setIfInBounds_toArray, List.set_cons_zero, List.set_cons_succ])
      | (apply Order.reads_on
         · rfl
         · intro x hx
           first
             | (go_simp; rfl)
             | (fail
                go_simp; rfl)
         simp only [Act.put, List.setIfInBounds_toArray, List.set_cons_zero, List.set_cons_succ]))
    refine Order.reads_end ?_
    refine wpAnyH_done (by decide +kernel) ?_ _
    refine NoPanic.normal ?_
    have HE := Lib.hid (HOb.out.1.trans (hz2'.mono HOb.out.1.size))
    have h10 : ((1 : Int) != 0) = true := rfl
    clear hz1 hz1' hz2 HF HRg HOp
    go_upto_region 10 with fail
    refine Order.region_begin (S := Order.Fresh z2.drew) (by kernel_rfl) ?_
    refine Order.reads_any (idx := [0, 1, 2, 3, 4, 5, 6, 7, 8, 9, 10, 11, 12, 13]) (by kernel_rfl) (Order.Fresh.refl _) (fun _ _ _ _ _ h => Order.noPanic_put h) 0 _ _ (by decide +kernel) ?_
    simp only [Order.pick, List.getElem?_toArray, List.getElem?_cons_zero, List.getElem?_cons_succ]
    repeat (first
      | (refine Order.reads_off (by rfl) ?_
         simp only [Act.put, List.setIfInBounds_toArray, List.set_cons_zero, List.set_cons_succ])
      | (apply Order.reads_on
         · rfl
         · intro x hx
           first
             | (go_simp; rfl)
             | (fail
                go_simp; rfl)
         simp only [Act.put, List.setIfInBounds_toArray, List.set_cons_zero, List.set_cons_succ]))
    refine Order.reads_end ?_
    refine wpAnyH_done (by decide +kernel) ?_ _
    refine NoPanic.normal ?_
    have HE2 := Lib.hid (HE.out.trans ((Below.refl z2.heap.size z2).drew.mono HE.out.size))
    go_wp2_with fail
    exact bodyPost_ret (v := .tuple #[.pointer none, .slice none 0 0, .slice none 0 0, .int .i64 21]) (by simp [results, Try.results45, go_sem]) rfl ⟨rfl, HE2.out⟩
  have hgd : m4 ≤ 1099511627776 ∧ m1 + 1 ≤ 4294967295 := Classical.not_not.1 hbad
  clear hbad
  have HOp := Lib.hid (show ∀ z, Below N.heap.size N z → _ from fun z hz => Sp.sys_open (w := w0) (s := ringS n m4 (m1 + 1)) (hw.trans ((HOb.out.1.mono hw.size).trans (hz.mono (Nat.le_trans hw.size HOb.out.1.size)))) (HIz.out z hz) hF0 rfl rfl (ring_opens h64 HI.out.num.2 (by omega) ⟨by omega, by omega⟩))
  change Hid (∀ z, Below N.heap.size N z → Calls _ _ #[ptr p, .agg #[.int .i64 ((2 + 2 * qu n : Nat) : Int), .int .i64 ((n - (2 + 2 * qu n) : Nat) : Int)], .int .i64 (m4 : Int), .int .i64 ((m1 : Int) + 1)] z fun e y => ∃ q v, e = .returned (.tuple #[ptr q, v, .int .i64 0]) ∧ Below z.heap.size z y ∧ z.heap.size ≤ q ∧ Sp.Sys w0 y p q n t (ringF t n m4 (m1 + 1)) F ∧ Recs z.heap.size (fun k => k < z.heap.size ∨ k = q) y v (found t (ringS n m4 (m1 + 1))).1) at HOp
  obtain ⟨rf, hrf⟩ : ∃ f, f = 2 + 2 * qu n := ⟨_, rfl⟩
  rw [← hrf] at HRg HOp
  obtain ⟨rn, hrn⟩ : ∃ f, f = n - rf := ⟨_, rfl⟩
  rw [← hrn] at HRg HOp
  clear hrf hrn
  refine Order.region_begin (S := Order.Fresh N.drew) (by kernel_rfl) ?_
  refine Order.reads_any (idx := [0, 1, 3, 4, 5, 6]) (by kernel_rfl) (Order.Fresh.refl _) (fun _ _ _ _ _ h => Order.noPanic_put h) 9 _ _ (by decide +kernel) ?_
  simp only [Order.pick, List.getElem?_toArray, List.getElem?_cons_zero, List.getElem?_cons_succ]
  repeat (first
    | (refine Order.reads_off (by rfl) ?_
       simp only [Act.put, List.setIfInBounds_toArray, List.set_cons_zero, List.set_cons_succ])
    | (apply Order.reads_on
       · rfl
       · intro x hx
         first
           | (go_simp; rfl)
           | (obtain ⟨⟨g0, g1⟩, hm5⟩ := HF.out x ((Below.refl N.heap.size N).drew.trans hx)
              obtain ⟨c0, c1, c2, c3, c4⟩ := hm5.cells
              go_simp; rfl)
       simp only [Act.put, List.setIfInBounds_toArray, List.set_cons_zero, List.set_cons_succ]))
  refine Order.reads_end ?_
  apply Order.acts_any (R := Order.Fresh) Order.Fresh.trans (i := 2)
  · rfl
  · decide +kernel
  · rfl
  unfold Oper.wp
  go_simp
  refine (HRg.out _ (Below.refl _ _).drew).mono ?_
  rintro e z1 ⟨rfl, hz1⟩
  refine ⟨hz1, ?_⟩
  have hz1' : Below N.heap.size N z1 := (Below.refl N.heap.size N).drew.trans hz1
  apply Order.acts_any (R := Order.Fresh) Order.Fresh.trans (i := 7)
  · rfl
  · decide +kernel
  · rfl
  unfold Oper.wp
  go_simp
  refine (HOp.out z1 hz1').mono ?_
  rintro e z2 ⟨q, vr, rfl, hz2, hq, hsys, hrecs⟩
  refine ⟨hz2, ?_⟩
  have hz2' : Below N.heap.size N z2 := hz1'.trans (hz2.mono hz1'.size)
  refine Order.reads_any (idx := [8, 9, 10, 11, 12, 13, 14]) (by kernel_rfl) (Order.Fresh.refl _) (fun _ _ _ _ _ h => Order.noPanic_put h) 0 _ _ (by decide +kernel) ?_
  simp only [Order.pick, List.getElem?_toArray, List.getElem?_cons_zero, List.getElem?_cons_succ]
  repeat (first
    | (refine Order.reads_off (by rfl) ?_
       simp only [Act.put, List.setIfInBounds_toArray, List.set_cons_zero, List.set_cons_succ])
    | (apply Order.reads_on
       · rfl
       · intro x hx
         first
           | (go_simp; rfl)
           | (fail
              go_simp; rfl)
       simp only [Act.put, List.setIfInBounds_toArray, List.set_cons_zero, List.set_cons_succ]))
  refine Order.reads_end ?_
  refine wpAnyH_done (by decide +kernel) ?_ _
  refine NoPanic.normal ?_
  obtain ⟨vra, vrc, hvr⟩ := hrecs.slice
  have HZ := Lib.hid (show Below N.heap.size N z2 ∧ z1.heap.size ≤ q ∧ q < z2.heap.size ∧ Sp.Sys w0 z2 p q n t (ringF t n m4 (m1 + 1)) F ∧ Recs z1.heap.size (fun k => k < z1.heap.size ∨ k = q) z2 vr (found t (ringS n m4 (m1 + 1))).1 ∧ w.heap.size ≤ z1.heap.size ∧ vr = .slice vra (found t (ringS n m4 (m1 + 1))).1.length vrc from ⟨hz2', hq, hsys.spool.lt, hsys, hrecs, Nat.le_trans HOb.out.1.size hz1'.size, hvr⟩)
  have h10 : ((0 : Int) != 0) = false := rfl
  clear hz1 hz1' hz2 hz2' hq hsys hrecs hvr HRg HOp
  have HF2 := Lib.hid (show ∀ z, Below z2.heap.size z2 z → _ from fun z hz => HF.out z (HZ.out.1.trans (hz.mono HZ.out.1.size)))
  go_upto_region 10 with fail
  by_cases hf2 : 1 < m2
  · have e2 : (2 : Int) ≤ (m2 : Int) := by omega
    refine Order.region_begin (S := Order.Fresh z2.drew) (by kernel_rfl) ?_
    refine Order.reads_any (idx := [0, 1, 2, 3, 4, 5, 6, 7, 8, 9, 10, 11, 12, 13]) (by kernel_rfl) (Order.Fresh.refl _) (fun _ _ _ _ _ h => Order.noPanic_put h) 0 _ _ (by decide +kernel) ?_
    simp only [Order.pick, List.getElem?_toArray, List.getElem?_cons_zero, List.getElem?_cons_succ]
    repeat (first
      | (refine Order.reads_off (by rfl) ?_
         simp only [Act.put, List.setIfInBounds_toArray, List.set_cons_zero, List.set_cons_succ])
      | (apply Order.reads_on
         · rfl
         · intro x hx
           first
             | (go_simp; rfl)
             | (obtain ⟨⟨g0, g1⟩, hm5⟩ := HF2.out x ((Below.refl z2.heap.size z2).drew.trans hx)
                obtain ⟨c0, c1, c2, c3, c4⟩ := hm5.cells
                go_simp; rfl)
         simp only [Act.put, List.setIfInBounds_toArray, List.set_cons_zero, List.set_cons_succ]))
    refine Order.reads_end ?_
    refine wpAnyH_done (by decide +kernel) ?_ _
    refine NoPanic.normal ?_
    have HE2 := Lib.hid ((HOb.out.1.trans (HZ.out.1.mono HOb.out.1.size)).trans ((Below.refl z2.heap.size z2).drew.mono (Nat.le_trans HOb.out.1.size HZ.out.1.size)))
    clear HF HF2
    go_wp2_with fail
    exact bodyPost_ret (v := .tuple #[.pointer none, .slice none 0 0, .slice none 0 0, .int .i64 21]) (by simp [results, Try.results45, go_sem]) rfl ⟨rfl, HE2.out⟩
  have e2 : ¬ (2 : Int) ≤ (m2 : Int) := by omega
  have HMo := Lib.hid (show ∀ z, _ from fun z => dmost_any (p := p) (s := qu n) hqn z)
  unfold dkV at HMo
  generalize hmo : qu n * 128 = mo at *
  have HMq := Lib.hid hmo
  clear hmo
  have e3 : (mo : Int) < (m3 : Int) := by omega
  refine Order.region_begin (S := Order.Fresh z2.drew) (by kernel_rfl) ?_
  refine Order.reads_any (idx := [0, 1, 2, 3, 4, 5, 6, 7, 8, 9, 10]) (by kernel_rfl) (Order.Fresh.refl _) (fun _ _ _ _ _ h => Order.noPanic_put h) 3 _ _ (by decide +kernel) ?_
  simp only [Order.pick, List.getElem?_toArray, List.getElem?_cons_zero, List.getElem?_cons_succ]
  repeat (first
    | (refine Order.reads_off (by rfl) ?_
       simp only [Act.put, List.setIfInBounds_toArray, List.set_cons_zero, List.set_cons_succ])
    | (apply Order.reads_on
       · rfl
       · intro x hx
         first
           | (go_simp; rfl)
           | (obtain ⟨⟨g0, g1⟩, hm5⟩ := HF2.out x ((Below.refl z2.heap.size z2).drew.trans hx)
              obtain ⟨c0, c1, c2, c3, c4⟩ := hm5.cells
              go_simp; rfl)
       simp only [Act.put, List.setIfInBounds_toArray, List.set_cons_zero, List.set_cons_succ]))
  refine Order.reads_end ?_
  apply Order.acts_any (R := Order.Fresh) Order.Fresh.trans (i := 11)
  · rfl
  · decide +kernel
  · rfl
  unfold Oper.wp
  go_simp
  refine (HMo.out _).mono ?_
  rintro e z3 ⟨rfl, hz3⟩
  refine ⟨hz3, ?_⟩
  have hz3' : Below z2.heap.size z2 z3 := (Below.refl z2.heap.size z2).drew.trans hz3
  refine Order.reads_any (idx := [12, 13]) (by kernel_rfl) (Order.Fresh.refl _) (fun _ _ _ _ _ h => Order.noPanic_put h) 0 _ _ (by decide +kernel) ?_
  simp only [Order.pick, List.getElem?_toArray, List.getElem?_cons_zero, List.getElem?_cons_succ]
  repeat (first
    | (refine Order.reads_off (by rfl) ?_
       simp only [Act.put, List.setIfInBounds_toArray, List.set_cons_zero, List.set_cons_succ])
    | (apply Order.reads_on
       · rfl
       · intro x hx
         first
           | (go_simp; rfl)
           | (fail
              go_simp; rfl)
       simp only [Act.put, List.setIfInBounds_toArray, List.set_cons_zero, List.set_cons_succ]))
  refine Order.reads_end ?_
  refine wpAnyH_done (by decide +kernel) ?_ _
  refine NoPanic.normal ?_
  have HE2 := Lib.hid ((HOb.out.1.trans (HZ.out.1.mono HOb.out.1.size)).trans (hz3'.mono (Nat.le_trans HOb.out.1.size HZ.out.1.size)))
  clear hz3 hz3' HF HF2
  go_wp2_with fail
  exact bodyPost_ret (v := .tuple #[.pointer none, .slice none 0 0, .slice none 0 0, .int .i64 21]) (by simp [results, Try.results45, go_sem]) rfl ⟨rfl, HE2.out⟩
/-- What an Open comes to: a hoard, its image, its records; or a step was refused. -/
def OpenP (w0 w : World) (p n : Nat) (t : Tray (List UInt8)) (F : Nat → Prop) (r iv rv : Value) (cd : Int) (x : World) : Prop :=
  Turns F w x ∧ (((setT t (openM (cnt t).1)).2 = 0 ∧ cd = 0 ∧ ∃ q h F' G, r = ptr h ∧ Hs w0 x h p q n (hopen n t) F' ∧ (∀ k, F' k → F k ∨ w.heap.size ≤ k) ∧ w.heap.size ≤ q ∧ w.heap.size ≤ h ∧
      (∃ a m c, iv = .slice a m c) ∧ Stay (fun k => F' k ∨ k = q ∨ k = h) x (fun y => IsBytes y iv (imgT (hopen n t).t (2 + (cnt t).1.getD 2 0 * qu n) ((cnt t).1.getD 3 0))) ∧
      Recs w.heap.size G x rv (found t (ringS n ((cnt t).1.getD 4 0) ((cnt t).1.getD 1 0 + 1))).1 ∧ (∀ k, F' k ∨ k = q ∨ k = h → G k) ∧ ∀ k, rv.ownBlock = some k → ¬ F' k ∧ k ≠ q ∧ k ≠ h) ∨
    ((setT t (openM (cnt t).1)).2 ≠ 0 ∧ cd = 20 ∧ r = .pointer none ∧ iv = .slice none 0 0 ∧ rv = .slice none 0 0 ∧ ∃ F', IsT x p n (setT t (openM (cnt t).1)).1 F' ∧ ∀ k, F' k → F k ∨ w.heap.size ≤ k))
set_option maxHeartbeats 16000000 in
set_option maxRecDepth 100000 in
theorem open_goes (hw : Below w0.heap.size w0 w) (hF0 : ∀ k, F k → w0.heap.size ≤ k) (h : IsT w p n t F) (h64 : 64 ≤ n) (hcn : (cnt t).2 = true) (hr : ¬ Rot n (cnt t).1) (hc : t.cache.length ≤ 80000) : Calls Try.prog 45 #[ptr p] w fun e x => ∃ r iv rv cd, e = .returned (.tuple #[r, iv, rv, .int .i64 cd]) ∧ OpenP w0 w p n t F r iv rv cd x := by
  have HD := Lib.hid (divide_any h)
  rw [if_neg (show ¬ n < 64 by omega)] at HD
  have HI := Lib.hid h
  have HM := Lib.hid (show ∀ x, Below w.heap.size w x → _ from fun x hx => dmark_any (s := qu n) (h.below hx))
  have hlt := cnt_lt h
  have hqn : qu n ≤ 4096 := by have := h.num; unfold qu; omega
  clear h
  unfold dkV at HD HM
  go_enter Try.func45, Try.ntmps45
  go_wp2_with fail
  refine HD.out.mono ?_
  rintro e x1 ⟨rfl, hx1⟩
  have hb1 : Below w.heap.size w (x1.alloc (.cells #[ptr p, .int .i64 (qu n : Int)] tDk)) := hx1.alloc hx1.size _
  have hd1 := heap_alloc_new x1 (.cells #[ptr p, .int .i64 (qu n : Int)] tDk)
  go_upto_region 4 with fail
  change Code.wp _ _ _ _ (x1.alloc (.cells #[ptr p, .int .i64 (qu n : Int)] tDk))
  have hDl : x1.heap.size < (x1.alloc (.cells #[ptr p, .int .i64 (qu n : Int)] tDk)).heap.size := by simp
  generalize x1.alloc (.cells #[ptr p, .int .i64 (qu n : Int)] tDk) = X at *
  have hDk := hx1.size
  generalize x1.heap.size = D at *
  clear hx1 HD x1
  have d0 := Lib.cell_of_heap hd1 0
  have d1 := Lib.cell_of_heap hd1 1
  simp only [List.getElem?_toArray, List.getElem?_cons_zero, List.getElem?_cons_succ] at d0 d1
  have HMx := Lib.hid (HM.out X hb1)
  have hml : (cntP t).1.length = 5 := by rw [← acc_two]; exact acc_len t 2
  have hcp : cntP t = cnt t := by rw [cntP, if_pos hcn]
  rw [hcp] at hml HMx
  obtain ⟨m0, m1, m2, m3, m4, hms⟩ := five hml
  have HMs := Lib.hid hms
  rw [hms] at hlt
  have hl0 : m0 < 281474976710656 := hlt m0 (by simp)
  have hl1 : m1 < 281474976710656 := hlt m1 (by simp)
  rw [hms, hcn, mcs5] at HMx
  have HNx := Lib.hid (show ∀ x, _ from fun x => next_any m0 m1 m2 m3 m4 (by omega) x)
  rw [mcs5, mcs5] at HNx
  clear hms hml HM hcp
  go_wp2_with fail
  refine HMx.out.mono ?_
  rintro e x2 ⟨rfl, hx2⟩
  obtain ⟨V, hV⟩ : ∃ V, V = x2.alloc (.cells #[.int .i64 (m0 : Int), .int .i64 (m1 : Int), .int .i64 (m2 : Int), .int .i64 (m3 : Int), .int .i64 (m4 : Int)] tPm) := ⟨_, rfl⟩
  have hVs : Below x2.heap.size x2 V := by rw [hV]; exact (Below.refl _ _).alloc (Nat.le_refl _) _
  have hcM : C5 x2.heap.size tPm (.int .i64 (m0 : Int)) (.int .i64 (m1 : Int)) (.int .i64 (m2 : Int)) (.int .i64 (m3 : Int)) (.int .i64 (m4 : Int)) V := by rw [hV]; exact heap_alloc_new x2 _
  have hb2 : Below w.heap.size w V := (hb1.trans (hx2.mono hb1.size)).trans (hVs.mono (Nat.le_trans hb1.size hx2.size))
  have hd2 := ((hx2.trans (hVs.mono hx2.size)).block D hDl).trans hd1
  have hMw : w.heap.size ≤ x2.heap.size := Nat.le_trans hb1.size hx2.size
  have hDM : D < x2.heap.size := Nat.lt_of_lt_of_le hDl hx2.size
  clear hx2 hb1 HMx d0 d1 hd1 hVs hDl
  obtain ⟨c0, c1, c2, c3, c4⟩ := hcM.cells
  go_upto_region 7 with fail
  rw [← hV]
  clear hV
  generalize x2.heap.size = M at *
  clear x2
  go_wp2_with fail
  refine (HNx.out V).mono ?_
  rintro e x3 ⟨rfl, hx3⟩
  have hc3 := hcM.on hx3
  have hd3 := (hx3.block D (Array.getElem?_eq_some_iff.1 hd2).1).trans hd2
  have hb3 := hb2.trans (hx3.mono hb2.size)
  clear c0 c1 c2 c3 c4 HNx hx3 hcM hd2 hb2
  obtain ⟨c0, c1, c2, c3, c4⟩ := hc3.cells
  obtain ⟨f0, f1, f2, f3, f4⟩ := hc3.free
  obtain ⟨N, hN⟩ : ∃ N, N = (Ta.st5 x3 M (.int .i64 ((m0 : Int) + 1)) (.int .i64 (m1 : Int)) (.int .i64 (m2 : Int)) (.int .i64 (m3 : Int)) (.int .i64 (m4 : Int))).setCell ⟨M, 1, none⟩ (.int .i64 ((m1 : Int) + 1)) := ⟨_, rfl⟩
  have hNt : Turns (fun k => k = M) x3 N := by
    rw [hN]
    exact (Ta.st5_turns x3 M (.int .i64 ((m0 : Int) + 1)) (.int .i64 (m1 : Int)) (.int .i64 (m2 : Int)) (.int .i64 (m3 : Int)) (.int .i64 (m4 : Int))).setCell (p := ⟨M, 1, none⟩) rfl _
  have HOb := Lib.hid (show Ob w p n D M (m0 + 1) (m1 + 1) m2 m3 m4 N from ⟨hb3.trans (hNt.below hb3.size fun k e => by omega), hNt.heap hd3 (by omega), by rw [hN]; exact heap_setCell_same _ M 1 _ _ _ (hc3.put (.int .i64 ((m0 : Int) + 1)) (.int .i64 (m1 : Int)) (.int .i64 (m2 : Int)) (.int .i64 (m3 : Int)) (.int .i64 (m4 : Int))), by omega, hMw⟩)
  unfold Ta.st5 at hN
  go_upto_region 9 with fail
  rw [← hN]
  clear hN hNt hb3 hd3 hc3 c0 c1 c2 c3 c4 f0 f1 f2 f3 f4
  have HF := Lib.hid (show ∀ z, Below N.heap.size N z → (z.cell? ⟨D, 0, none⟩ = some (ptr p) ∧ z.cell? ⟨D, 1, none⟩ = some (.int .i64 (qu n : Int))) ∧ C5 M tPm (.int .i64 ((m0 + 1 : Nat) : Int)) (.int .i64 ((m1 + 1 : Nat) : Int)) (.int .i64 (m2 : Int)) (.int .i64 (m3 : Int)) (.int .i64 (m4 : Int)) z from fun z hz => by
    have h1 := (hz.block D (Array.getElem?_eq_some_iff.1 HOb.out.2.1).1).trans HOb.out.2.1
    refine ⟨⟨?_, ?_⟩, HOb.out.2.2.1.on hz⟩ <;> (rw [Lib.cell_of_heap h1]; rfl)
  )
  have HIz := Lib.hid (show ∀ z, Below N.heap.size N z → IsT z p n t F from fun z hz => HI.out.below (HOb.out.1.trans (hz.mono HOb.out.1.size)))
  have HRg := Lib.hid (show ∀ z, Below N.heap.size N z → _ from fun z hz => dring_any (HIz.out z hz) h64)
  unfold dkV at HRg
  have hrt : ¬ (1 < m2 ∨ qu n * 128 < m3 ∨ 4294967295 < m1 + 1 ∨ 1099511627776 < m4) := by have h := hr; rw [HMs.out] at h; exact h
  have hgd : m4 ≤ 1099511627776 ∧ m1 + 1 ≤ 4294967295 := ⟨by omega, by omega⟩
  have HOp := Lib.hid (show ∀ z, Below N.heap.size N z → _ from fun z hz => Sp.sys_open (w := w0) (s := ringS n m4 (m1 + 1)) (hw.trans ((HOb.out.1.mono hw.size).trans (hz.mono (Nat.le_trans hw.size HOb.out.1.size)))) (HIz.out z hz) hF0 rfl rfl (ring_opens h64 HI.out.num.2 (by omega) ⟨by omega, by omega⟩))
  change Hid (∀ z, Below N.heap.size N z → Calls _ _ #[ptr p, .agg #[.int .i64 ((2 + 2 * qu n : Nat) : Int), .int .i64 ((n - (2 + 2 * qu n) : Nat) : Int)], .int .i64 (m4 : Int), .int .i64 ((m1 : Int) + 1)] z fun e y => ∃ q v, e = .returned (.tuple #[ptr q, v, .int .i64 0]) ∧ Below z.heap.size z y ∧ z.heap.size ≤ q ∧ Sp.Sys w0 y p q n t (ringF t n m4 (m1 + 1)) F ∧ Recs z.heap.size (fun k => k < z.heap.size ∨ k = q) y v (found t (ringS n m4 (m1 + 1))).1) at HOp
  obtain ⟨rf, hrf⟩ : ∃ f, f = 2 + 2 * qu n := ⟨_, rfl⟩
  rw [← hrf] at HRg HOp
  obtain ⟨rn, hrn⟩ : ∃ f, f = n - rf := ⟨_, rfl⟩
  rw [← hrn] at HRg HOp
  clear hrf hrn
  refine Order.region_begin (S := Order.Fresh N.drew) (by kernel_rfl) ?_
  refine Order.reads_any (idx := [0, 1, 3, 4, 5, 6]) (by kernel_rfl) (Order.Fresh.refl _) (fun _ _ _ _ _ h => Order.noPanic_put h) 9 _ _ (by decide +kernel) ?_
  simp only [Order.pick, List.getElem?_toArray, List.getElem?_cons_zero, List.getElem?_cons_succ]
  repeat (first
    | (refine Order.reads_off (by rfl) ?_
       simp only [Act.put, List.setIfInBounds_toArray, List.set_cons_zero, List.set_cons_succ])
    | (apply Order.reads_on
       · rfl
       · intro x hx
         first
           | (go_simp; rfl)
           | (obtain ⟨⟨g0, g1⟩, hm5⟩ := HF.out x ((Below.refl N.heap.size N).drew.trans hx)
              obtain ⟨c0, c1, c2, c3, c4⟩ := hm5.cells
              go_simp; rfl)
       simp only [Act.put, List.setIfInBounds_toArray, List.set_cons_zero, List.set_cons_succ]))
  refine Order.reads_end ?_
  apply Order.acts_any (R := Order.Fresh) Order.Fresh.trans (i := 2)
  · rfl
  · decide +kernel
  · rfl
  unfold Oper.wp
  go_simp
  refine (HRg.out _ (Below.refl _ _).drew).mono ?_
  rintro e z1 ⟨rfl, hz1⟩
  refine ⟨hz1, ?_⟩
  have hz1' : Below N.heap.size N z1 := (Below.refl N.heap.size N).drew.trans hz1
  apply Order.acts_any (R := Order.Fresh) Order.Fresh.trans (i := 7)
  · rfl
  · decide +kernel
  · rfl
  unfold Oper.wp
  go_simp
  refine (HOp.out z1 hz1').mono ?_
  rintro e z2 ⟨q, vr, rfl, hz2, hq, hsys, hrecs⟩
  refine ⟨hz2, ?_⟩
  have hz2' : Below N.heap.size N z2 := hz1'.trans (hz2.mono hz1'.size)
  refine Order.reads_any (idx := [8, 9, 10, 11, 12, 13, 14]) (by kernel_rfl) (Order.Fresh.refl _) (fun _ _ _ _ _ h => Order.noPanic_put h) 0 _ _ (by decide +kernel) ?_
  simp only [Order.pick, List.getElem?_toArray, List.getElem?_cons_zero, List.getElem?_cons_succ]
  repeat (first
    | (refine Order.reads_off (by rfl) ?_
       simp only [Act.put, List.setIfInBounds_toArray, List.set_cons_zero, List.set_cons_succ])
    | (apply Order.reads_on
       · rfl
       · intro x hx
         first
           | (go_simp; rfl)
           | (fail
              go_simp; rfl)
       simp only [Act.put, List.setIfInBounds_toArray, List.set_cons_zero, List.set_cons_succ]))
  refine Order.reads_end ?_
  refine wpAnyH_done (by decide +kernel) ?_ _
  refine NoPanic.normal ?_
  obtain ⟨vra, vrc, hvr⟩ := hrecs.slice
  have HZ := Lib.hid (show Below N.heap.size N z2 ∧ z1.heap.size ≤ q ∧ q < z2.heap.size ∧ Sp.Sys w0 z2 p q n t (ringF t n m4 (m1 + 1)) F ∧ Recs z1.heap.size (fun k => k < z1.heap.size ∨ k = q) z2 vr (found t (ringS n m4 (m1 + 1))).1 ∧ w.heap.size ≤ z1.heap.size ∧ vr = .slice vra (found t (ringS n m4 (m1 + 1))).1.length vrc from ⟨hz2', hq, hsys.spool.lt, hsys, hrecs, Nat.le_trans HOb.out.1.size hz1'.size, hvr⟩)
  have h10 : ((0 : Int) != 0) = false := rfl
  clear hz1 hz1' hz2 hz2' hq hsys hrecs hvr HRg HOp
  have HF2 := Lib.hid (show ∀ z, Below z2.heap.size z2 z → _ from fun z hz => HF.out z (HZ.out.1.trans (hz.mono HZ.out.1.size)))
  go_upto_region 10 with fail
  have e2 : ¬ (2 : Int) ≤ (m2 : Int) := by omega
  have HMo := Lib.hid (show ∀ z, _ from fun z => dmost_any (p := p) (s := qu n) hqn z)
  unfold dkV at HMo
  generalize hmo : qu n * 128 = mo at *
  have HMq := Lib.hid hmo
  clear hmo
  have e3 : ¬ (mo : Int) < (m3 : Int) := by omega
  refine Order.region_begin (S := Order.Fresh z2.drew) (by kernel_rfl) ?_
  refine Order.reads_any (idx := [0, 1, 2, 3, 4, 5, 6, 7, 8, 9, 10]) (by kernel_rfl) (Order.Fresh.refl _) (fun _ _ _ _ _ h => Order.noPanic_put h) 3 _ _ (by decide +kernel) ?_
  simp only [Order.pick, List.getElem?_toArray, List.getElem?_cons_zero, List.getElem?_cons_succ]
  repeat (first
    | (refine Order.reads_off (by rfl) ?_
       simp only [Act.put, List.setIfInBounds_toArray, List.set_cons_zero, List.set_cons_succ])
    | (apply Order.reads_on
       · rfl
       · intro x hx
         first
           | (go_simp; rfl)
           | (obtain ⟨⟨g0, g1⟩, hm5⟩ := HF2.out x ((Below.refl z2.heap.size z2).drew.trans hx)
              obtain ⟨c0, c1, c2, c3, c4⟩ := hm5.cells
              go_simp; rfl)
       simp only [Act.put, List.setIfInBounds_toArray, List.set_cons_zero, List.set_cons_succ]))
  refine Order.reads_end ?_
  apply Order.acts_any (R := Order.Fresh) Order.Fresh.trans (i := 11)
  · rfl
  · decide +kernel
  · rfl
  unfold Oper.wp
  go_simp
  refine (HMo.out _).mono ?_
  rintro e z3 ⟨rfl, hz3⟩
  refine ⟨hz3, ?_⟩
  have hz3' : Below z2.heap.size z2 z3 := (Below.refl z2.heap.size z2).drew.trans hz3
  refine Order.reads_any (idx := [12, 13]) (by kernel_rfl) (Order.Fresh.refl _) (fun _ _ _ _ _ h => Order.noPanic_put h) 0 _ _ (by decide +kernel) ?_
  simp only [Order.pick, List.getElem?_toArray, List.getElem?_cons_zero, List.getElem?_cons_succ]
  repeat (first
    | (refine Order.reads_off (by rfl) ?_
       simp only [Act.put, List.setIfInBounds_toArray, List.set_cons_zero, List.set_cons_succ])
    | (apply Order.reads_on
       · rfl
       · intro x hx
         first
           | (go_simp; rfl)
           | (fail
              go_simp; rfl)
       simp only [Act.put, List.setIfInBounds_toArray, List.set_cons_zero, List.set_cons_succ]))
  refine Order.reads_end ?_
  refine wpAnyH_done (by decide +kernel) ?_ _
  refine NoPanic.normal ?_
  have hst := set_any (s := qu n) (m0 + 1) (m1 + 1) m2 m3 m4 (HZ.out.2.2.2.1.tray.below hz3') (by
    simp only [List.mem_cons, List.not_mem_nil, or_false]
    have := HMq.out
    rintro m (rfl | rfl | rfl | rfl | rfl) <;> omega) (by omega)
  rw [mcs5] at hst
  unfold dkV at hst
  have hop : openM (cnt t).1 = [m0 + 1, m1 + 1, m2, m3, m4] := by rw [HMs.out]; rfl
  have HPo := Lib.hid (show ∀ r iv rv cd x, OpenP w0 w p n t F r iv rv cd x ↔ Turns F w x ∧ (((setT t [m0 + 1, m1 + 1, m2, m3, m4]).2 = 0 ∧ cd = 0 ∧ ∃ q h F' G, r = ptr h ∧ Hs w0 x h p q n ⟨(setT t [m0 + 1, m1 + 1, m2, m3, m4]).1, [m0 + 1, m1 + 1, m2, m3, m4], ringF t n m4 (m1 + 1), false, false⟩ F' ∧ (∀ k, F' k → F k ∨ w.heap.size ≤ k) ∧ w.heap.size ≤ q ∧ w.heap.size ≤ h ∧
      (∃ a m c, iv = .slice a m c) ∧ Stay (fun k => F' k ∨ k = q ∨ k = h) x (fun y => IsBytes y iv (imgT (setT t [m0 + 1, m1 + 1, m2, m3, m4]).1 (2 + m2 * qu n) m3)) ∧
      Recs w.heap.size G x rv (found t (ringS n m4 (m1 + 1))).1 ∧ (∀ k, F' k ∨ k = q ∨ k = h → G k) ∧ ∀ k, rv.ownBlock = some k → ¬ F' k ∧ k ≠ q ∧ k ≠ h) ∨
    ((setT t [m0 + 1, m1 + 1, m2, m3, m4]).2 ≠ 0 ∧ cd = 20 ∧ r = .pointer none ∧ iv = .slice none 0 0 ∧ rv = .slice none 0 0 ∧ ∃ F', IsT x p n (setT t [m0 + 1, m1 + 1, m2, m3, m4]).1 F' ∧ ∀ k, F' k → F k ∨ w.heap.size ≤ k)) from fun r iv rv cd x => by
    unfold OpenP hopen
    rw [hop, HMs.out]
    exact Iff.rfl)
  generalize setT t [m0 + 1, m1 + 1, m2, m3, m4] = K at *
  have HSt := Lib.hid hst
  obtain ⟨⟨g0, g1⟩, hm5⟩ := HF2.out z3 hz3'
  obtain ⟨c0, c1, c2, c3, c4⟩ := hm5.cells
  have hws : w.heap.size ≤ z2.heap.size := Nat.le_trans HOb.out.1.size HZ.out.1.size
  have HZ3 := Lib.hid hz3'
  have hsl := HZ.out.2.2.2.2.2.2
  have HVr := Lib.hid hsl
  rw [hsl]
  clear hst hop hz3 hz3' hm5 HF HMo hsl
  go_wp2_with fail
  refine HSt.out.mono ?_
  rintro e x5 ⟨rfl, ht5, F5, hi5, hF5⟩
  have hs3 := HZ3.out.size
  have hs5 := sys_wrote (HZ.out.2.2.2.1.on HZ3.out) ht5 hi5 hF5
  have ht25 : Turns F z2 x5 := Turns.after_below HZ3.out ht5
  have hF5' : ∀ k, F5 k → F k ∨ z2.heap.size ≤ k := fun k hk => (hF5 k hk).imp id fun h => Nat.le_trans hs3 h
  have hwx : Turns F w x5 := (Turns.of_below (HOb.out.1.trans (HZ.out.1.mono HOb.out.1.size))).trans ht25 fun _ _ h => h
  have hlow := HI.out.low
  have hDMz : D < N.heap.size ∧ M < N.heap.size := ⟨(Array.getElem?_eq_some_iff.1 HOb.out.2.1).1, (Array.getElem?_eq_some_iff.1 HOb.out.2.2.1).1⟩
  have hgD : ∀ x, Below x5.heap.size x5 x → x.heap[D]? = some (.cells #[ptr p, .int .i64 (qu n : Int)] tDk (0, 0)) := fun x hx => by
    have h1 := ht25.heap ((HZ.out.1.block D hDMz.1).trans HOb.out.2.1) (fun hk => by have := hlow D hk; have := HOb.out.2.2.2.1; omega)
    exact (hx.block D (Array.getElem?_eq_some_iff.1 h1).1).trans h1
  have hgM : ∀ x, Below x5.heap.size x5 x → C5 M tPm (.int .i64 ((m0 + 1 : Nat) : Int)) (.int .i64 ((m1 + 1 : Nat) : Int)) (.int .i64 (m2 : Int)) (.int .i64 (m3 : Int)) (.int .i64 (m4 : Int)) x := fun x hx => ((HOb.out.2.2.1.on HZ.out.1).turn ht25 (fun hk => by have := hlow M hk; have := HOb.out.2.2.2.2; omega)).on hx
  have HQ := Lib.hid (show Sp.Sys w0 x5 p q n K.1 (ringF t n m4 (m1 + 1)) F5 ∧ Turns F w x5 ∧ (∀ k, F5 k → F k ∨ z2.heap.size ≤ k) ∧ Turns F z2 x5 ∧ IsT x5 p n K.1 F5 from ⟨hs5, hwx, hF5', ht25, hi5⟩)
  have HF5 := Lib.hid (show ∀ z, Below x5.heap.size x5 z → (z.cell? ⟨D, 0, none⟩ = some (ptr p) ∧ z.cell? ⟨D, 1, none⟩ = some (.int .i64 (qu n : Int))) ∧ C5 M tPm (.int .i64 ((m0 + 1 : Nat) : Int)) (.int .i64 ((m1 + 1 : Nat) : Int)) (.int .i64 (m2 : Int)) (.int .i64 (m3 : Int)) (.int .i64 (m4 : Int)) z from fun z hz => ⟨⟨by rw [Lib.cell_of_heap (hgD z hz)]; rfl, by rw [Lib.cell_of_heap (hgD z hz)]; rfl⟩, hgM z hz⟩)
  clear ht5 hi5 hF5 hs5 ht25 hF5' hwx hgD hgM g0 g1 c0 c1 c2 c3 c4 HSt HF2
  by_cases hok : K.2 = 0
  · rw [decide_eq_true hok]
    have HOk := Lib.hid hok
    clear hok
    have HFin := Lib.hid (show ∀ y hb iv, Below x5.heap.size x5 y → y.heap[hb]? = some (.cells #[ptr p, .int .i64 (qu n : Int), .int .i64 ((m0 : Int) + 1), .int .i64 ((m1 : Int) + 1), .int .i64 (m2 : Int), .int .i64 (m3 : Int), .int .i64 (m4 : Int), ptr q, .bool false, .bool false] tHo (0, 0)) → x5.heap.size ≤ hb → (∃ a m c, iv = .slice a m c) → Stay (fun k => F5 k ∨ k = q ∨ k = hb) y (fun y => IsBytes y iv (imgT K.1 (2 + m2 * qu n) m3)) → OpenP w0 w p n t F (ptr hb) iv (.slice vra (found t (ringS n m4 (m1 + 1))).1.length vrc) 0 y from fun y hb iv hy hbox hge hiv hst => by
      have hz25 := HQ.out.2.2.2.1.size
      have hz2y : Turns (fun k => k < z1.heap.size ∨ k = q) z2 y := (HQ.out.2.2.2.1.trans (Turns.of_below hy : Turns F x5 y) fun _ _ h => h).mono fun k _ hk => .inl (by have := hlow k hk; have := HZ.out.2.2.2.2.2.1; omega)
      have hrc := HZ.out.2.2.2.2.1
      rw [HVr.out] at hrc
      have hrow : ∀ k, (Value.slice vra (found t (ringS n m4 (m1 + 1))).1.length vrc).ownBlock = some k → z1.heap.size ≤ k ∧ k < z2.heap.size ∧ k ≠ q := fun k hk => by
        obtain ⟨vs, h1, -⟩ := hrc
        have h2 := h1.lt k hk
        refine ⟨h2.1, h2.2, fun e => ?_⟩
        obtain ⟨cur, hcur⟩ := Ta.own_heap h1 hk
        have h3 := HZ.out.2.2.2.1.spool
        unfold SpB at h3
        rw [e, h3] at hcur
        injection Option.some.inj hcur with h4 h5
        exact absurd h5 (by decide)
      have hz1w := HZ.out.2.2.2.2.2.1
      have hF5lt := HQ.out.2.2.2.2.low
      have hqlt := HZ.out.2.2.1
      refine (HPo.out _ _ _ _ _).2 ⟨HQ.out.2.1.trans (Turns.of_below hy : Turns F x5 y) fun _ _ h => h, .inl ⟨HOk.out, rfl, q, hb, F5, fun k => k < z1.heap.size ∨ k = q ∨ z2.heap.size ≤ k, rfl, ⟨HQ.out.1.on hy, hbox, ⟨fun hk => by have := hF5lt hb hk; omega, fun e => by omega, by have := hw.size; omega⟩, h64, by show m2 ≤ 1; omega, by show m0 + 1 < _ ∧ m1 + 1 < _; omega⟩, fun k hk => (HQ.out.2.2.1 k hk).imp id fun h => Nat.le_trans hws h, by have := HZ.out.2.1; omega, by omega, hiv, hst, ?_, fun k hk => ?_, fun k hk => ?_⟩⟩
      · exact recs_base (recs_go hrc hz2y (fun k hk h => by have := hrow k hk; omega) fun k hk h => by rcases h with h | h | h; exact .inl h; exact .inr h; omega) hz1w
      · rcases hk with hk | hk | hk
        · rcases HQ.out.2.2.1 k hk with h | h
          · exact .inl (by have := hlow k h; omega)
          · exact .inr (.inr h)
        · exact .inr (.inl hk)
        · exact .inr (.inr (by omega))
      · have h1 := hrow k hk
        refine ⟨fun hf => ?_, h1.2.2, by omega⟩
        rcases HQ.out.2.2.1 k hf with h | h
        · have := hlow k h; omega
        · omega)
    have HIm := Lib.hid (show ∀ z, Below x5.heap.size x5 z → _ from fun z hz => image_any (m0 + 1) (m1 + 1) m2 m3 m4 (HQ.out.2.2.2.2.below hz) h64 (by omega) (by have := HMq.out; omega))
    rw [mcs5] at HIm
    unfold dkV at HIm
    have hbh := build_ho
    have HQlt := Lib.hid (show q < x5.heap.size ∧ ∀ k, F5 k → k < x5.heap.size from ⟨HQ.out.1.spool.lt, HQ.out.2.2.2.2.low⟩)
    go_upto_region 14 with fail
    clear HPo HQ HZ HZ3 HVr HI HOb HIz HMq HMs hlow hDMz hw hF0
    refine Order.beginE (fun z => Below x5.heap.size x5 z) [] (by kernel_rfl) ?_
    refine Order.readsE_any (idx := [0, 1, 2, 3, 5, 6, 8]) (by kernel_rfl) (Below.refl _ _).drew (fun _ _ _ _ _ h => Order.noPanic_put h) 6 _ _ (by decide +kernel) ?_
    simp only [Order.pick, List.getElem?_toArray, List.getElem?_cons_zero, List.getElem?_cons_succ]
    repeat (first
      | (refine Order.reads_off (by rfl) ?_
         simp only [Act.put, List.setIfInBounds_toArray, List.set_cons_zero, List.set_cons_succ])
      | (apply Order.reads_on
         · rfl
         · intro x hx
           first
             | (obtain ⟨⟨g0, g1⟩, hm5⟩ := HF5.out x hx
                obtain ⟨c0, c1, c2, c3, c4⟩ := hm5.cells
                exact Order.load_at rfl rfl (by assumption))
             | (go_simp; rfl)
             | (obtain ⟨⟨g0, g1⟩, hm5⟩ := HF5.out x hx
                obtain ⟨c0, c1, c2, c3, c4⟩ := hm5.cells
                go_simp; rfl)
         simp only [Act.put, List.setIfInBounds_toArray, List.set_cons_zero, List.set_cons_succ]))
    refine Order.reads_end ?_
    have hbd : Below x5.heap.size x5 x5.drew := (Below.refl _ _).drew
    apply Order.actE2 (i := 4) (j := 7)
    · rfl
    · rfl
    · decide +kernel
    · rfl
    · rfl
    · simp only [List.getElem_toArray, List.getElem_cons_succ, List.getElem_cons_zero]
      unfold Oper.wp
      go_simp
      obtain ⟨Y, hY⟩ : ∃ Y, Y = (x5.alloc (.cells #[ptr p, .int .i64 (qu n : Int), .int .i64 ((m0 : Int) + 1), .int .i64 ((m1 : Int) + 1), .int .i64 (m2 : Int), .int .i64 (m3 : Int), .int .i64 (m4 : Int), ptr q, .bool false, .bool false] tHo)).drew := ⟨_, rfl⟩
      have hYb : Below x5.heap.size x5 Y := by rw [hY]; exact ((Below.refl _ _).alloc (Nat.le_refl _) _).drew
      have hYh : Y.heap[x5.heap.size]? = some (.cells #[ptr p, .int .i64 (qu n : Int), .int .i64 ((m0 : Int) + 1), .int .i64 ((m1 : Int) + 1), .int .i64 (m2 : Int), .int .i64 (m3 : Int), .int .i64 (m4 : Int), ptr q, .bool false, .bool false] tHo (0, 0)) := by rw [hY]; exact heap_alloc_new x5 _
      rw [← hY]
      refine ⟨hYb, ?_⟩
      clear hY hbd
      apply Order.actE (i := 7)
      · rfl
      · decide +kernel
      · rfl
      unfold Oper.wp
      go_simp
      refine (HIm.out Y hYb).mono ?_
      rintro e y ⟨iv, rfl, hby, hst⟩
      have hyb : Below x5.heap.size x5 y := hYb.trans (hby.mono hYb.size)
      refine ⟨hyb, ?_⟩
      obtain ⟨ia, ic, rfl, -⟩ := hst.now
      have hYl := (Array.getElem?_eq_some_iff.1 hYh).1
      have hop := HFin.out y x5.heap.size _ hyb ((hby.block _ hYl).trans hYh) (Nat.le_refl _) ⟨_, _, _, rfl⟩ (hst.grow (Turns.refl (fun k => k < Y.heap.size) y) fun k _ hk => by
        have := HQlt.out.1
        have := hYb.size
        rcases hk with hk | hk | hk
        · have := HQlt.out.2 k hk; omega
        · omega
        · omega)
      refine Order.readsE_any (idx := [9, 10, 11, 12]) (by kernel_rfl) hyb (fun _ _ _ _ _ h => Order.noPanic_put h) 0 _ _ (by decide +kernel) ?_
      simp only [Order.pick, List.getElem?_toArray, List.getElem?_cons_zero, List.getElem?_cons_succ]
      repeat (first
        | (refine Order.reads_off (by rfl) ?_
           simp only [Act.put, List.setIfInBounds_toArray, List.set_cons_zero, List.set_cons_succ])
        | (apply Order.reads_on
           · rfl
           · intro x hx
             first
               | (go_simp; rfl)
               | (fail
                  go_simp; rfl)
           simp only [Act.put, List.setIfInBounds_toArray, List.set_cons_zero, List.set_cons_succ]))
      refine Order.reads_end ?_
      refine Order.doneE (by decide +kernel) ?_ _
      refine NoPanic.normal ?_
      have HO := Lib.hid hop
      clear hop
      clear HIm
      go_wp2_with fail
      exact bodyPost_ret (v := .tuple #[ptr x5.heap.size, .slice ia (imgT K.1 (2 + m2 * qu n) m3).length ic, .slice vra (found t (ringS n m4 (m1 + 1))).1.length vrc, .int .i64 0]) (by simp [results, Try.results45, go_sem]) rfl ⟨_, _, _, _, rfl, HO.out⟩
    · simp only [List.getElem_toArray, List.getElem_cons_succ, List.getElem_cons_zero]
      unfold Oper.wp
      go_simp
      refine (HIm.out _ hbd).mono ?_
      rintro e y6 ⟨iv, rfl, hby, hst⟩
      have hyb : Below x5.heap.size x5 y6 := hbd.trans (hby.mono hbd.size)
      refine ⟨hyb, ?_⟩
      obtain ⟨ia, ic, rfl, -⟩ := hst.now
      apply Order.actE (i := 4)
      · rfl
      · decide +kernel
      · rfl
      unfold Oper.wp
      go_simp
      obtain ⟨Y, hY⟩ : ∃ Y, Y = y6.alloc (.cells #[ptr p, .int .i64 (qu n : Int), .int .i64 ((m0 : Int) + 1), .int .i64 ((m1 : Int) + 1), .int .i64 (m2 : Int), .int .i64 (m3 : Int), .int .i64 (m4 : Int), ptr q, .bool false, .bool false] tHo) := ⟨_, rfl⟩
      have hYb : Below y6.heap.size y6 Y := by rw [hY]; exact (Below.refl _ _).alloc (Nat.le_refl _) _
      have hYh : Y.heap[y6.heap.size]? = some (.cells #[ptr p, .int .i64 (qu n : Int), .int .i64 ((m0 : Int) + 1), .int .i64 ((m1 : Int) + 1), .int .i64 (m2 : Int), .int .i64 (m3 : Int), .int .i64 (m4 : Int), ptr q, .bool false, .bool false] tHo (0, 0)) := by rw [hY]; exact heap_alloc_new y6 _
      rw [← hY]
      have hYb' : Below x5.heap.size x5 Y := hyb.trans (hYb.mono hyb.size)
      refine ⟨hYb', ?_⟩
      have hop := HFin.out Y y6.heap.size _ hYb' hYh hyb.size ⟨_, _, _, rfl⟩ ((hst.grow (Turns.refl (fun k => k < x5.drew.heap.size) y6) (G := fun k => F5 k ∨ k = q ∨ k = y6.heap.size) fun k hk6 hk => by
        have := HQlt.out.1
        have h5 : x5.drew.heap.size = x5.heap.size := rfl
        rcases hk with hk | hk | hk
        · have := HQlt.out.2 k hk; omega
        · omega
        · omega).below hYb)
      clear hY
      refine Order.readsE_any (idx := [9, 10, 11, 12]) (by kernel_rfl) hYb' (fun _ _ _ _ _ h => Order.noPanic_put h) 0 _ _ (by decide +kernel) ?_
      simp only [Order.pick, List.getElem?_toArray, List.getElem?_cons_zero, List.getElem?_cons_succ]
      repeat (first
        | (refine Order.reads_off (by rfl) ?_
           simp only [Act.put, List.setIfInBounds_toArray, List.set_cons_zero, List.set_cons_succ])
        | (apply Order.reads_on
           · rfl
           · intro x hx
             first
               | (go_simp; rfl)
               | (fail
                  go_simp; rfl)
           simp only [Act.put, List.setIfInBounds_toArray, List.set_cons_zero, List.set_cons_succ]))
      refine Order.reads_end ?_
      refine Order.doneE (by decide +kernel) ?_ _
      refine NoPanic.normal ?_
      have HO := Lib.hid hop
      clear hop
      clear HIm
      go_wp2_with fail
      exact bodyPost_ret (v := .tuple #[ptr y6.heap.size, .slice ia (imgT K.1 (2 + m2 * qu n) m3).length ic, .slice vra (found t (ringS n m4 (m1 + 1))).1.length vrc, .int .i64 0]) (by simp [results, Try.results45, go_sem]) rfl ⟨_, _, _, _, rfl, HO.out⟩
  · rw [decide_eq_false hok]
    have HOk := Lib.hid hok
    clear hok
    go_wp2_with fail
    refine bodyPost_ret (v := .tuple #[.pointer none, .slice none 0 0, .slice none 0 0, .int .i64 20]) (by simp [results, Try.results45, go_sem]) rfl ⟨_, _, _, _, rfl, (HPo.out _ _ _ _ _).2 ⟨HQ.out.2.1, .inr ⟨HOk.out, rfl, rfl, rfl, rfl, F5, HQ.out.2.2.2.2, fun k hk => (HQ.out.2.2.1 k hk).imp id fun h => Nat.le_trans hws h⟩⟩⟩
end
end Ho
end Go.Proofs.Ytkfmmdiflbnhgaa
