/-
  Layer 14: the program's set: a mark is set.
-/
import Derived.Test.YtkfmmdiflbnhgaaHoMrk
import Derived.Test.YtkfmmdiflbnhgaaSgpC
namespace Go.Proofs.Ytkfmmdiflbnhgaa
set_option maxRecDepth 100000
open Go.RowKit
open Knot (Turns)
open Ta (IsBytes Stay sec nul ptr IsT C5 Tray Grow)
open Sp (Blk)
namespace Ho
section
variable {w : World} {p n s : Nat} {t : Tray (List UInt8)} {F : Nat → Prop}
set_option maxHeartbeats 16000000 in
set_option maxRecDepth 100000 in
theorem set_any (m0 m1 m2 m3 m4 : Nat) (h : IsT w p n t F) (hm : ∀ m ∈ [m0, m1, m2, m3, m4], m < 9223372036854775808) (hc : t.cache.length ≤ 90000) :
    Calls Try.prog 74 #[dkV p s, .agg (mcs [m0, m1, m2, m3, m4])] w fun e x => e = .returned (.bool (decide ((setT t [m0, m1, m2, m3, m4]).2 = 0))) ∧ Turns F w x ∧ ∃ F', IsT x p n (setT t [m0, m1, m2, m3, m4]).1 F' ∧ (∀ k, F' k → F k ∨ w.heap.size ≤ k) := by
  have hn := h.num
  obtain ⟨W, hW⟩ : ∃ W, W = (w.alloc (.cells #[ptr p, .int .i64 (s : Int)] tDk)).alloc (.cells #[.int .i64 (m0 : Int), .int .i64 (m1 : Int), .int .i64 (m2 : Int), .int .i64 (m3 : Int), .int .i64 (m4 : Int)] tPm) := ⟨_, rfl⟩
  have HW := Lib.hid (show Below w.heap.size w W ∧ W.heap[w.heap.size]? = some (.cells #[ptr p, .int .i64 (s : Int)] tDk (0, 0)) ∧ C5 (w.heap.size + 1) tPm (.int .i64 (m0 : Int)) (.int .i64 (m1 : Int)) (.int .i64 (m2 : Int)) (.int .i64 (m3 : Int)) (.int .i64 (m4 : Int)) W from by
    rw [hW]
    have h1 := heap_alloc_new w (.cells #[ptr p, .int .i64 (s : Int)] tDk)
    have h1' := (((Below.refl (w.alloc (.cells #[ptr p, .int .i64 (s : Int)] tDk)).heap.size (w.alloc (.cells #[ptr p, .int .i64 (s : Int)] tDk))).alloc (Nat.le_refl _) (.cells #[.int .i64 (m0 : Int), .int .i64 (m1 : Int), .int .i64 (m2 : Int), .int .i64 (m3 : Int), .int .i64 (m4 : Int)] tPm)).block w.heap.size (by simp)).trans h1
    have h2 := heap_alloc_new (w.alloc (.cells #[ptr p, .int .i64 (s : Int)] tDk)) (.cells #[.int .i64 (m0 : Int), .int .i64 (m1 : Int), .int .i64 (m2 : Int), .int .i64 (m3 : Int), .int .i64 (m4 : Int)] tPm)
    rw [show (w.alloc (.cells #[ptr p, .int .i64 (s : Int)] tDk)).heap.size = w.heap.size + 1 by simp] at h2
    exact ⟨((Below.refl _ _).alloc (Nat.le_refl _) _).alloc (by simp) _, h1', h2⟩)
  have HMs := Lib.hid (fun x => msector_any m0 m1 m2 m3 m4 hm x)
  have HPl := Lib.hid (fun x => place_any m0 m1 m2 m3 m4 x)
  have HI := Lib.hid (And.intro h hc)
  clear h hc hm
  rw [mcs5] at HMs HPl ⊢
  unfold dkV
  obtain ⟨B, hB⟩ : ∃ B, B = w.heap.size + 1 := ⟨_, rfl⟩
  rw [← hB] at HW
  have HB := Lib.hid (show w.heap.size < B from by omega)
  go_enter Try.func74, Try.ntmps74
  go_upto_region 1 with fail
  change Code.wp _ _ _ _ ((w.alloc (.cells #[ptr p, .int .i64 (s : Int)] tDk)).alloc (.cells #[.int .i64 (m0 : Int), .int .i64 (m1 : Int), .int .i64 (m2 : Int), .int .i64 (m3 : Int), .int .i64 (m4 : Int)] tPm))
  rw [← hW, ← hB]
  clear hW hB
  obtain ⟨e0, e1, e2, e3, e4⟩ := HW.out.2.2.cells
  have hz := Ta.zero_sec
  go_wp2_with fail
  refine (HMs.out W).mono ?_
  rintro e x1 ⟨rfl, hb1⟩
  have h8 := mkS_len (ms := [m0, m1, m2, m3, m4]) rfl
  have HS8 := Lib.hid (show setT t [m0, m1, m2, m3, m4] = if t.left = 0 then (t.dim, 20) else if (t.put ((m0 % 2 : Nat) : Int) (mkS [m0, m1, m2, m3, m4])).left = 0 then ((t.put ((m0 % 2 : Nat) : Int) (mkS [m0, m1, m2, m3, m4])).flush, 20) else ((t.put ((m0 % 2 : Nat) : Int) (mkS [m0, m1, m2, m3, m4])).flush, 0) from rfl)
  generalize mkS [m0, m1, m2, m3, m4] = S8 at *
  have hst := Ta.store_sec x1 x1.heap.size nul S8 rfl rfl h8
  have hs8 := Ta.sec_size h8
  have hs0 : (sec nul).size = 128 := rfl
  clear e0 e1 e2 e3 e4 HMs
  go_upto_region 2 with fail
  obtain ⟨Y, hY⟩ : ∃ Y, Y = x1.alloc (.cells (sec S8) 64) := ⟨_, rfl⟩
  have hal : Below x1.heap.size x1 Y := by rw [hY]; exact (Below.refl _ _).alloc (Nat.le_refl _) _
  have hWY : Below W.heap.size W Y := hb1.trans (hal.mono hb1.size)
  have HY := Lib.hid (show Below w.heap.size w Y ∧ Y.heap[w.heap.size]? = some (.cells #[ptr p, .int .i64 (s : Int)] tDk (0, 0)) ∧ C5 B tPm (.int .i64 (m0 : Int)) (.int .i64 (m1 : Int)) (.int .i64 (m2 : Int)) (.int .i64 (m3 : Int)) (.int .i64 (m4 : Int)) Y ∧ Blk Y x1.heap.size 64 S8 from
    ⟨HW.out.1.trans (hWY.mono HW.out.1.size), (hWY.block _ (Array.getElem?_eq_some_iff.1 HW.out.2.1).1).trans HW.out.2.1, HW.out.2.2.on hWY, by rw [hY]; exact heap_alloc_new x1 _⟩)
  have HG := Lib.hid (show w.heap.size ≤ x1.heap.size from Nat.le_trans HW.out.1.size hb1.size)
  rw [← hY]
  clear hY hal hWY hst hs8 hs0 hb1 HW hz
  generalize x1.heap.size = g at *
  have hlow := HI.out.1.low
  have HF := Lib.hid (show ∀ x, Turns (fun k => F k ∨ Y.heap.size ≤ k) Y x → (x.cell? ⟨w.heap.size, 0, none⟩ = some (ptr p)) ∧ C5 B tPm (.int .i64 (m0 : Int)) (.int .i64 (m1 : Int)) (.int .i64 (m2 : Int)) (.int .i64 (m3 : Int)) (.int .i64 (m4 : Int)) x from fun x hx => by
    refine ⟨?_, HY.out.2.2.1.turn hx fun hk => hk.elim (fun hk => by have := hlow B hk; have := HB.out; omega) fun hk => by have := (Array.getElem?_eq_some_iff.1 HY.out.2.2.1).1; omega⟩
    rw [Lib.cell_of_heap (hx.heap HY.out.2.1 fun hk => hk.elim (fun hk => by have := hlow _ hk; omega) fun hk => by have := (Array.getElem?_eq_some_iff.1 HY.out.2.1).1; omega)]
    rfl)
  have hIY : IsT Y p n t F := HI.out.1.below HY.out.1
  have HP := Lib.hid (show ∀ x, Below Y.heap.size Y x → _ from fun x hx => Ta.write_any ((m0 % 2 : Nat) : Int) (.slice (some ⟨g, 0, none⟩) 128 128) S8 (hIY.below hx) (fun y hy => by
    have h1 := ((HY.out.2.2.2.on hx).turn hy fun hk => by have := hlow g hk; have := HG.out; omega).bytes (o := 0) (m := 128) (cap := 128) (by rw [h8]; omega) (Nat.le_refl _) (by unfold maxLen; omega)
    rwa [List.drop_zero, List.take_of_length_le (by rw [h8]; exact Nat.le_refl _)] at h1) (by have := HI.out.2; omega))
  rw [Sp.write_full (show m0 % 2 < n by omega) h8] at HP
  clear hIY
  by_cases hl0 : t.left = 0
  · rw [if_pos hl0, if_pos hl0] at HP
    rw [if_pos hl0] at HS8
    have HE := Lib.hid HS8.out
    clear HS8
    have hne : ((20 : Int) == 0) = false := rfl
    refine Order.region_begin (S := Turns (fun k => F k ∨ Y.heap.size ≤ k) Y.drew) (by kernel_rfl) ?_
    refine Order.reads_any (idx := [0, 1, 2, 4]) (by kernel_rfl) (Turns.refl _ _) (fun _ _ _ _ _ h => Order.noPanic_put h) 10 _ _ (by decide +kernel) ?_
    simp only [Order.pick, List.getElem?_toArray, List.getElem?_cons_zero, List.getElem?_cons_succ]
    repeat (first
      | (refine Order.reads_off (by rfl) ?_
         simp only [Act.put, List.setIfInBounds_toArray, List.set_cons_zero, List.set_cons_succ])
      | (apply Order.reads_on
         · rfl
         · intro x hx
           first
             | (go_simp; rfl)
             | (obtain ⟨d0, hp⟩ := HF.out x (Turns.after_below (Below.refl _ _).drew hx)
                obtain ⟨c0, c1, c2, c3, c4⟩ := hp.cells
                go_simp; rfl)
         simp only [Act.put, List.setIfInBounds_toArray, List.set_cons_zero, List.set_cons_succ]))
    refine Order.reads_end ?_
    apply Order.acts_any (R := (Turns (fun k => F k ∨ Y.heap.size ≤ k))) (fun h k => h.trans k fun _ _ h => h) (i := 3)
    · rfl
    · decide +kernel
    · rfl
    unfold Oper.wp
    go_simp
    refine (HPl.out _).mono ?_
    rintro e1 x2 ⟨rfl, hb2⟩
    refine ⟨Turns.of_below hb2, ?_⟩
    have hb2' : Below Y.heap.size Y x2 := (Below.refl Y.heap.size Y).drew.trans hb2
    apply Order.acts_any (R := (Turns (fun k => F k ∨ Y.heap.size ≤ k))) (fun h k => h.trans k fun _ _ h => h) (i := 5)
    · rfl
    · decide +kernel
    · rfl
    unfold Oper.wp
    go_simp
    refine (HP.out _ hb2').mono ?_
    rintro e1 x3 ⟨rfl, ht3, hi3⟩
    refine ⟨ht3.mono fun _ _ h => .inl h, ?_⟩
    refine Order.reads_any (idx := [6, 7, 8, 9, 10, 11, 12, 13]) (by kernel_rfl) (Turns.refl _ _) (fun _ _ _ _ _ h => Order.noPanic_put h) 0 _ _ (by decide +kernel) ?_
    simp only [Order.pick, List.getElem?_toArray, List.getElem?_cons_zero, List.getElem?_cons_succ]
    repeat (first
      | (refine Order.reads_off (by rfl) ?_
         simp only [Act.put, List.setIfInBounds_toArray, List.set_cons_zero, List.set_cons_succ])
      | (apply Order.reads_on
         · rfl
         · intro x hx
           first
             | (go_simp; rfl)
             | (fail
                go_simp; rfl)
         simp only [Act.put, List.setIfInBounds_toArray, List.set_cons_zero, List.set_cons_succ]))
    refine Order.reads_end ?_
    refine wpAnyH_done (by decide +kernel) ?_ _
    refine NoPanic.normal ?_
    have HEn := Lib.hid (show Turns F w x3 ∧ ∃ F', IsT x3 p n t.dim F' ∧ (∀ k, F' k → F k ∨ w.heap.size ≤ k) from ⟨(Turns.of_below HY.out.1).trans (Turns.after_below hb2' ht3) fun _ _ h => h, _, hi3, fun k hk => hk.imp id fun h => Nat.le_trans HY.out.1.size (Nat.le_trans hb2'.size h.1)⟩)
    clear HF HP HPl ht3 hi3 hb2 hb2' HY
    go_wp2_with fail
    go_ret
    rw [HE.out]
    exact ⟨rfl, HEn.out.1, HEn.out.2⟩
  · rw [if_neg hl0, if_neg hl0] at HP
    rw [if_neg hl0] at HS8
    have hcT : (t.put ((m0 % 2 : Nat) : Int) S8).cache.length ≤ 100000 := by
      have := HI.out.2
      unfold Tray.put
      rw [if_neg hl0]
      show (t.cache ++ [_]).length ≤ _
      rw [List.length_append, List.length_singleton]
      omega
    generalize t.put ((m0 % 2 : Nat) : Int) S8 = T at *
    obtain ⟨cd, hcd⟩ : ∃ cd : Int, cd = (if T.left = 0 then 20 else 0) := ⟨_, rfl⟩
    have HE := Lib.hid (show setT t [m0, m1, m2, m3, m4] = (T.flush, cd) from by
      rw [HS8.out, hcd]
      split <;> rfl)
    have hzz : ((0 : Int) == 0) = true := rfl
    have HCd := Lib.hid hcd
    clear HS8 hcd
    refine Order.region_begin (S := Turns (fun k => F k ∨ Y.heap.size ≤ k) Y.drew) (by kernel_rfl) ?_
    refine Order.reads_any (idx := [0, 1, 2, 4]) (by kernel_rfl) (Turns.refl _ _) (fun _ _ _ _ _ h => Order.noPanic_put h) 10 _ _ (by decide +kernel) ?_
    simp only [Order.pick, List.getElem?_toArray, List.getElem?_cons_zero, List.getElem?_cons_succ]
    repeat (first
      | (refine Order.reads_off (by rfl) ?_
         simp only [Act.put, List.setIfInBounds_toArray, List.set_cons_zero, List.set_cons_succ])
      | (apply Order.reads_on
         · rfl
         · intro x hx
           first
             | (go_simp; rfl)
             | (obtain ⟨d0, hp⟩ := HF.out x (Turns.after_below (Below.refl _ _).drew hx)
                obtain ⟨c0, c1, c2, c3, c4⟩ := hp.cells
                go_simp; rfl)
         simp only [Act.put, List.setIfInBounds_toArray, List.set_cons_zero, List.set_cons_succ]))
    refine Order.reads_end ?_
    apply Order.acts_any (R := (Turns (fun k => F k ∨ Y.heap.size ≤ k))) (fun h k => h.trans k fun _ _ h => h) (i := 3)
    · rfl
    · decide +kernel
    · rfl
    unfold Oper.wp
    go_simp
    refine (HPl.out _).mono ?_
    rintro e1 x2 ⟨rfl, hb2⟩
    refine ⟨Turns.of_below hb2, ?_⟩
    have hb2' : Below Y.heap.size Y x2 := (Below.refl Y.heap.size Y).drew.trans hb2
    apply Order.acts_any (R := (Turns (fun k => F k ∨ Y.heap.size ≤ k))) (fun h k => h.trans k fun _ _ h => h) (i := 5)
    · rfl
    · decide +kernel
    · rfl
    unfold Oper.wp
    go_simp
    refine (HP.out _ hb2').mono ?_
    rintro e1 x3 ⟨rfl, ht3, hi3⟩
    refine ⟨ht3.mono fun _ _ h => .inl h, ?_⟩
    have ht3' : Turns F Y x3 := Turns.after_below hb2' ht3
    have HF3 := Lib.hid (show ∀ x, Turns (fun k => F k ∨ Y.heap.size ≤ k) x3 x → _ from fun x hx => HF.out x ((ht3'.mono fun _ _ h => .inl h).trans hx fun _ _ h => h))
    refine Order.reads_any (idx := [6, 7, 8, 9]) (by kernel_rfl) (Turns.refl _ _) (fun _ _ _ _ _ h => Order.noPanic_put h) 4 _ _ (by decide +kernel) ?_
    simp only [Order.pick, List.getElem?_toArray, List.getElem?_cons_zero, List.getElem?_cons_succ]
    repeat (first
      | (refine Order.reads_off (by rfl) ?_
         simp only [Act.put, List.setIfInBounds_toArray, List.set_cons_zero, List.set_cons_succ])
      | (apply Order.reads_on
         · rfl
         · intro x hx
           first
             | (go_simp; rfl)
             | (obtain ⟨d0, hp⟩ := HF3.out x hx
                go_simp; rfl)
         simp only [Act.put, List.setIfInBounds_toArray, List.set_cons_zero, List.set_cons_succ]))
    refine Order.reads_end ?_
    apply Order.acts_any (R := (Turns (fun k => F k ∨ Y.heap.size ≤ k))) (fun h k => h.trans k fun _ _ h => h) (i := 10)
    · rfl
    · decide +kernel
    · rfl
    unfold Oper.wp
    go_simp
    refine (Ta.flush_any hi3 hcT).mono ?_
    rw [← HCd.out]
    rintro e1 x4 ⟨rfl, ht4, hi4⟩
    have ht34 : Turns (fun k => F k ∨ Y.heap.size ≤ k) x3 x4 := ht4.mono fun k _ hg => hg.imp id fun h => Nat.le_trans hb2'.size h.1
    have ht4' : Turns F Y x4 := ht3'.trans ht4 fun k hk hg => hg.elim id fun h => by have := h.1; have := hb2'.size; omega
    refine ⟨ht34, ?_⟩
    refine Order.reads_any (idx := [11, 12, 13]) (by kernel_rfl) (Turns.refl _ _) (fun _ _ _ _ _ h => Order.noPanic_put h) 0 _ _ (by decide +kernel) ?_
    simp only [Order.pick, List.getElem?_toArray, List.getElem?_cons_zero, List.getElem?_cons_succ]
    repeat (first
      | (refine Order.reads_off (by rfl) ?_
         simp only [Act.put, List.setIfInBounds_toArray, List.set_cons_zero, List.set_cons_succ])
      | (apply Order.reads_on
         · rfl
         · intro x hx
           first
             | (go_simp; rfl)
             | (fail
                go_simp; rfl)
         simp only [Act.put, List.setIfInBounds_toArray, List.set_cons_zero, List.set_cons_succ]))
    refine Order.reads_end ?_
    refine wpAnyH_done (by decide +kernel) ?_ _
    refine NoPanic.normal ?_
    have HEn := Lib.hid (show Turns F w x4 ∧ ∃ F', IsT x4 p n T.flush F' ∧ (∀ k, F' k → F k ∨ w.heap.size ≤ k) from ⟨(Turns.of_below HY.out.1).trans ht4' fun _ _ h => h, _, hi4, fun k hk => hk.imp id fun h => Nat.le_trans HY.out.1.size (Nat.le_trans hb2'.size h.1)⟩)
    clear HF HF3 HP HPl ht3 hi3 hb2 hb2' HY ht4 ht34 hi4 ht3' ht4'
    go_wp2_with fail
    go_ret
    rw [HE.out]
    exact ⟨by simp [Bool.beq_eq_decide_eq], HEn.out.1, HEn.out.2⟩
end
end Ho
end Go.Proofs.Ytkfmmdiflbnhgaa
