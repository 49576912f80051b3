/-
  Layer 14: the program's markOn and mark: the mark that counts.
-/
import Derived.Test.YtkfmmdiflbnhgaaHoBox
import Derived.Test.YtkfmmdiflbnhgaaSgpB
import Derived.Test.YtkfmmdiflbnhgaaInA
namespace Go.Proofs.Ytkfmmdiflbnhgaa
set_option maxRecDepth 100000
open Go.RowKit
open Knot (Turns)
open Ta (IsBytes sec nul ptr IsT C5)
open Sp (Blk array_at)
namespace Ho
section
variable {w : World} {p n s : Nat} {t : Ta.Tray (List UInt8)} {F : Nat → Prop}
set_option maxHeartbeats 8000000 in
set_option maxRecDepth 100000 in
theorem markOn_any (h : IsT w p n t F) (at_ : Nat) (ha : at_ < n) : Calls Try.prog 83 #[dkV p s, .int .i64 (at_ : Int)] w fun e x => e = .returned (.tuple #[.agg (mcs (mkO (t.read nul at_))), .bool (decide (IsMk (t.read nul at_) at_))]) ∧ Below w.heap.size w x := by
  obtain ⟨W, hW⟩ : ∃ W, W = (w.alloc (.cells #[ptr p, .int .i64 (s : Int)] tDk)).alloc (.cells #[.int .i64 0, .int .i64 0, .int .i64 0, .int .i64 0, .int .i64 0] tPm) := ⟨_, rfl⟩
  have hb8 := Ta.read_len h at_
  have HX := Lib.hid (show Below w.heap.size w W ∧ C5 (w.heap.size + 1) tPm (.int .i64 0) (.int .i64 0) (.int .i64 0) (.int .i64 0) (.int .i64 0) W from by
    rw [hW]
    have h2 := heap_alloc_new (w.alloc (.cells #[ptr p, .int .i64 (s : Int)] tDk)) (.cells #[.int .i64 0, .int .i64 0, .int .i64 0, .int .i64 0, .int .i64 0] tPm)
    rw [show (w.alloc (.cells #[ptr p, .int .i64 (s : Int)] tDk)).heap.size = w.heap.size + 1 by simp] at h2
    exact ⟨((Below.refl _ _).alloc (Nat.le_refl _) _).alloc (by simp) _, h2⟩)
  have hR := Ta.tread_any (at_ : Int) (h.below HX.out.1) (by omega) (by omega)
  have HR := Lib.hid hR
  have c0 : W.cell? ⟨w.heap.size, 0, none⟩ = some (ptr p) := by
    rw [hW]
    have h1 := heap_alloc_new w (.cells #[ptr p, .int .i64 (s : Int)] tDk)
    have h1' := (((Below.refl (w.alloc (.cells #[ptr p, .int .i64 (s : Int)] tDk)).heap.size (w.alloc (.cells #[ptr p, .int .i64 (s : Int)] tDk))).alloc (Nat.le_refl _) (.cells #[.int .i64 0, .int .i64 0, .int .i64 0, .int .i64 0, .int .i64 0] tPm)).block w.heap.size (by simp)).trans h1
    rw [Lib.cell_of_heap h1']
    rfl
  clear hR h ha
  unfold dkV
  go_enter Try.func83, Try.ntmps83
  go_upto_region 1 with fail
  change Code.wp _ _ _ _ ((w.alloc (.cells #[ptr p, .int .i64 (s : Int)] tDk)).alloc (.cells #[.int .i64 0, .int .i64 0, .int .i64 0, .int .i64 0, .int .i64 0] tPm))
  rw [← hW]
  clear hW
  obtain ⟨T, hT⟩ : ∃ T, T = w.heap.size + 1 := ⟨_, rfl⟩
  rw [← hT] at HX ⊢
  have HO := Lib.hid (show w.heap.size ≤ T from by omega)
  clear hT
  go_wp2_with fail
  refine HR.out.mono ?_
  rintro e x2 ⟨rfl, hx2, hb2⟩
  have HX2 := Lib.hid (And.intro hx2 (And.intro (HX.out.1.trans (hb2.mono HX.out.1.size)) (HX.out.2.on hb2)))
  clear hx2 hb2 HR HX c0
  generalize hbe : t.read nul at_ = b at *
  have HBe := Lib.hid hbe
  clear hbe
  generalize W.heap.size = G at *
  have HP := Lib.hid (mread_any b hb8 x2)
  have h00 : ((0 : Int) != 0) = false := rfl
  have hat := array_at
  go_wp2_with (refine wpList_load_mid rfl 64 (.tmp 22) rfl G 0 rfl (Lib.byteCells b) _ (fun j v hj => by rw [Nat.zero_add, Lib.cell_of_heap HX2.out.1]; simpa [sec] using hj) Try.underlying64 rfl (by rw [Lib.byteCells_length, hb8]; exact Ta.info_sec) ?_; rw [show (Lib.byteCells b).toArray = sec b from rfl])
  obtain ⟨m0, m1, m2, m3, m4, hmo⟩ := five (mkO_len b)
  have HMo := Lib.hid (And.intro hmo (show ∀ ok : Bool, ok = decide (mkS (mkO b) = b) → decide (IsMk b at_) = (ok && decide (m0 % 2 = at_)) from fun ok hok => by
    rw [hok, Bool.eq_iff_iff, decide_eq_true_iff, Bool.and_eq_true, decide_eq_true_iff, decide_eq_true_iff]
    show b = mkS (mkO b) ∧ (mkO b).getD 0 0 % 2 = at_ ↔ _
    rw [show (mkO b).getD 0 0 = m0 by rw [hmo]; rfl, eq_comm (a := b)]))
  refine HP.out.mono ?_
  rintro e x3 ⟨rfl, hb3⟩
  obtain ⟨ok, hok⟩ : ∃ ok : Bool, ok = decide (mkS (mkO b) = b) := ⟨_, rfl⟩
  have HOk := Lib.hid (HMo.out.2 ok hok)
  rw [← hok, hmo, mcs5]
  clear hok hmo HP hat h00
  go_upto_region 5 with fail
  obtain ⟨V, hV⟩ : ∃ V, V = x3.alloc (.cells #[.int .i64 (m0 : Int), .int .i64 (m1 : Int), .int .i64 (m2 : Int), .int .i64 (m3 : Int), .int .i64 (m4 : Int)] tPm) := ⟨_, rfl⟩
  rw [← hV]
  have hal : Below x3.heap.size x3 V := by rw [hV]; exact (Below.refl _ _).alloc (Nat.le_refl _) _
  have hb3' := hb3.trans (hal.mono hb3.size)
  have HV := Lib.hid (show Below w.heap.size w V ∧ C5 x3.heap.size tPm (.int .i64 (m0 : Int)) (.int .i64 (m1 : Int)) (.int .i64 (m2 : Int)) (.int .i64 (m3 : Int)) (.int .i64 (m4 : Int)) V ∧ C5 T tPm (.int .i64 0) (.int .i64 0) (.int .i64 0) (.int .i64 0) (.int .i64 0) V from ⟨HX2.out.2.1.trans (hb3'.mono HX2.out.2.1.size), by rw [hV]; exact heap_alloc_new x3 _, HX2.out.2.2.on hb3'⟩)
  have hQT : T ≠ x3.heap.size := fun e => by
    have h1 := (Array.getElem?_eq_some_iff.1 HX2.out.2.2).1
    have h2 := hb3.size
    omega
  generalize x3.heap.size = Q at *
  clear hV hal hb3' hb3 HX2
  replace HMo := Lib.hid HMo.out.1
  have HF := Lib.hid (show ∀ x, Turns (fun k => k = T) V x → _ from fun x hx => (HV.out.2.1.turn hx fun e => hQT e.symm).cells)
  clear hQT
  have HPl := Lib.hid (fun x => place_any m0 m1 m2 m3 m4 x)
  rw [mcs5] at HPl
  have hbq : (((m0 % 2 : Nat) : Int) == (at_ : Int)) = decide (m0 % 2 = at_) := by
    rw [Bool.eq_iff_iff, beq_iff_eq, decide_eq_true_iff]
    omega
  have HBq := Lib.hid hbq
  clear hbq
  refine Order.region_begin (S := Turns (fun k => k = T) V.drew) (by kernel_rfl) ?_
  cases ok with
  | false =>
    refine Order.reads_any (idx := [0, 1, 2, 3, 4, 5, 6, 7]) (by kernel_rfl) (Turns.refl _ _) (fun _ _ _ _ _ h => Order.noPanic_put h) 2 _ _ (by decide +kernel) ?_
    simp only [Order.pick, List.getElem?_toArray, List.getElem?_cons_zero, List.getElem?_cons_succ]
    repeat (first
      | (refine Order.reads_off (by rfl) ?_
         simp only [Act.put, List.setIfInBounds_toArray, List.set_cons_zero, List.set_cons_succ])
      | (apply Order.reads_on
         · rfl
         · intro x hx
           first
             | (go_simp; rfl)
             | (obtain ⟨c0, c1, c2, c3, c4⟩ := HF.out x (Turns.after_below (Below.refl _ _).drew hx)
                go_simp; rfl)
         simp only [Act.put, List.setIfInBounds_toArray, List.set_cons_zero, List.set_cons_succ]))
    refine Order.reads_end ?_
    have hbz' : Below V.heap.size V V.drew := (Below.refl V.heap.size V).drew
    have hbox := HV.out.2.2.on hbz'
    obtain ⟨c0, c1, c2, c3, c4⟩ := HV.out.2.2.cells
    obtain ⟨f0, f1, f2, f3, f4⟩ := HV.out.2.2.free
    have ht5 := Ta.st5_turns V.drew T (.int .i64 (m0 : Int)) (.int .i64 (m1 : Int)) (.int .i64 (m2 : Int)) (.int .i64 (m3 : Int)) (.int .i64 (m4 : Int))
    have HT5 := Lib.hid (And.intro ht5 (And.intro (hbox.put (.int .i64 (m0 : Int)) (.int .i64 (m1 : Int)) (.int .i64 (m2 : Int)) (.int .i64 (m3 : Int)) (.int .i64 (m4 : Int))) hbz'))
    clear hbox ht5
    apply Order.acts_any (R := (Turns (fun k => k = T))) (fun h k => h.trans k fun _ _ h => h) (i := 8)
    · rfl
    · decide +kernel
    · rfl
    unfold Oper.wp
    go_simp
    obtain ⟨Fin, hFin⟩ : ∃ F, F = (Ta.st5 V T (.int .i64 (m0 : Int)) (.int .i64 (m1 : Int)) (.int .i64 (m2 : Int)) (.int .i64 (m3 : Int)) (.int .i64 (m4 : Int))).drew := ⟨_, rfl⟩
    replace HT5 := Lib.hid (show Turns (fun k => k = T) V.drew Fin ∧ C5 T tPm (.int .i64 (m0 : Int)) (.int .i64 (m1 : Int)) (.int .i64 (m2 : Int)) (.int .i64 (m3 : Int)) (.int .i64 (m4 : Int)) Fin ∧ Below V.heap.size V V.drew from by rw [hFin]; exact HT5.out)
    unfold Ta.st5 at hFin
    rw [← hFin]
    refine ⟨HT5.out.1, ?_⟩
    clear c0 c1 c2 c3 c4 f0 f1 f2 f3 f4 hFin
    refine Order.reads_any (idx := [9]) (by kernel_rfl) (Turns.refl _ _) (fun _ _ _ _ _ h => Order.noPanic_put h) 0 _ _ (by decide +kernel) ?_
    simp only [Order.pick, List.getElem?_toArray, List.getElem?_cons_zero, List.getElem?_cons_succ]
    repeat (first
      | (refine Order.reads_off (by rfl) ?_
         simp only [Act.put, List.setIfInBounds_toArray, List.set_cons_zero, List.set_cons_succ])
      | (apply Order.reads_on
         · rfl
         · intro x hx
           first
             | (go_simp; rfl)
             | (fail
                go_simp; rfl)
         simp only [Act.put, List.setIfInBounds_toArray, List.set_cons_zero, List.set_cons_succ]))
    refine Order.reads_end ?_
    refine wpAnyH_done (by decide +kernel) ?_ _
    refine NoPanic.normal ?_
    have hfin : Below w.heap.size w Fin := (HV.out.1.trans (HT5.out.2.2.mono HV.out.1.size)).trans (HT5.out.1.below (B := w.heap.size) (by have := HV.out.1.size; have := HT5.out.2.2.size; omega) fun k e => by have := HO.out; omega)
    obtain ⟨g0, g1, g2, g3, g4⟩ := HT5.out.2.1.cells
    have HR := Lib.hid hfin
    clear hfin HT5 HV HF hbz'
    go_wp2_with fail
    exact bodyPost_ret (v := .tuple #[.agg #[.int .i64 (m0 : Int), .int .i64 (m1 : Int), .int .i64 (m2 : Int), .int .i64 (m3 : Int), .int .i64 (m4 : Int)], .bool (false)]) (by simp [results, Try.results83, go_sem, g0, g1, g2, g3, g4]) rfl ⟨by rw [HBe.out, HMo.out, mcs5, HOk.out]; rfl, HR.out⟩
  | true =>
    refine Order.reads_any (idx := [0, 1, 2, 3, 5]) (by kernel_rfl) (Turns.refl _ _) (fun _ _ _ _ _ h => Order.noPanic_put h) 5 _ _ (by decide +kernel) ?_
    simp only [Order.pick, List.getElem?_toArray, List.getElem?_cons_zero, List.getElem?_cons_succ]
    repeat (first
      | (refine Order.reads_off (by rfl) ?_
         simp only [Act.put, List.setIfInBounds_toArray, List.set_cons_zero, List.set_cons_succ])
      | (apply Order.reads_on
         · rfl
         · intro x hx
           first
             | (go_simp; rfl)
             | (obtain ⟨c0, c1, c2, c3, c4⟩ := HF.out x (Turns.after_below (Below.refl _ _).drew hx)
                go_simp; rfl)
         simp only [Act.put, List.setIfInBounds_toArray, List.set_cons_zero, List.set_cons_succ]))
    refine Order.reads_end ?_
    apply Order.acts_any (R := (Turns (fun k => k = T))) (fun h k => h.trans k fun _ _ h => h) (i := 4)
    · rfl
    · decide +kernel
    · rfl
    unfold Oper.wp
    go_simp
    refine (HPl.out _).mono ?_
    rintro e1 Z ⟨rfl, hbz⟩
    refine ⟨Turns.of_below hbz, ?_⟩
    have hbz' : Below V.heap.size V Z := (Below.refl V.heap.size V).drew.trans hbz
    refine Order.reads_any (idx := [6, 7]) (by kernel_rfl) (Turns.refl _ _) (fun _ _ _ _ _ h => Order.noPanic_put h) 2 _ _ (by decide +kernel) ?_
    simp only [Order.pick, List.getElem?_toArray, List.getElem?_cons_zero, List.getElem?_cons_succ]
    repeat (first
      | (refine Order.reads_off (by rfl) ?_
         simp only [Act.put, List.setIfInBounds_toArray, List.set_cons_zero, List.set_cons_succ])
      | (apply Order.reads_on
         · rfl
         · intro x hx
           first
             | (go_simp; rfl)
             | (fail
                go_simp; rfl)
         simp only [Act.put, List.setIfInBounds_toArray, List.set_cons_zero, List.set_cons_succ]))
    refine Order.reads_end ?_
    have hbox := HV.out.2.2.on hbz'
    obtain ⟨c0, c1, c2, c3, c4⟩ := hbox.cells
    obtain ⟨f0, f1, f2, f3, f4⟩ := hbox.free
    have ht5 := Ta.st5_turns Z T (.int .i64 (m0 : Int)) (.int .i64 (m1 : Int)) (.int .i64 (m2 : Int)) (.int .i64 (m3 : Int)) (.int .i64 (m4 : Int))
    have HT5 := Lib.hid (And.intro ht5 (And.intro (hbox.put (.int .i64 (m0 : Int)) (.int .i64 (m1 : Int)) (.int .i64 (m2 : Int)) (.int .i64 (m3 : Int)) (.int .i64 (m4 : Int))) hbz'))
    clear hbox ht5
    apply Order.acts_any (R := (Turns (fun k => k = T))) (fun h k => h.trans k fun _ _ h => h) (i := 8)
    · rfl
    · decide +kernel
    · rfl
    unfold Oper.wp
    go_simp
    obtain ⟨Fin, hFin⟩ : ∃ F, F = Ta.st5 Z T (.int .i64 (m0 : Int)) (.int .i64 (m1 : Int)) (.int .i64 (m2 : Int)) (.int .i64 (m3 : Int)) (.int .i64 (m4 : Int)) := ⟨_, rfl⟩
    rw [← hFin] at HT5
    unfold Ta.st5 at hFin
    rw [← hFin]
    refine ⟨HT5.out.1, ?_⟩
    clear c0 c1 c2 c3 c4 f0 f1 f2 f3 f4 hFin
    refine Order.reads_any (idx := [9]) (by kernel_rfl) (Turns.refl _ _) (fun _ _ _ _ _ h => Order.noPanic_put h) 0 _ _ (by decide +kernel) ?_
    simp only [Order.pick, List.getElem?_toArray, List.getElem?_cons_zero, List.getElem?_cons_succ]
    repeat (first
      | (refine Order.reads_off (by rfl) ?_
         simp only [Act.put, List.setIfInBounds_toArray, List.set_cons_zero, List.set_cons_succ])
      | (apply Order.reads_on
         · rfl
         · intro x hx
           first
             | (go_simp; rfl)
             | (fail
                go_simp; rfl)
         simp only [Act.put, List.setIfInBounds_toArray, List.set_cons_zero, List.set_cons_succ]))
    refine Order.reads_end ?_
    refine wpAnyH_done (by decide +kernel) ?_ _
    refine NoPanic.normal ?_
    have hfin : Below w.heap.size w Fin := (HV.out.1.trans (HT5.out.2.2.mono HV.out.1.size)).trans (HT5.out.1.below (B := w.heap.size) (by have := HV.out.1.size; have := HT5.out.2.2.size; omega) fun k e => by have := HO.out; omega)
    obtain ⟨g0, g1, g2, g3, g4⟩ := HT5.out.2.1.cells
    have HR := Lib.hid hfin
    clear hfin HT5 HV HF hbz'
    go_wp2_with fail
    exact bodyPost_ret (v := .tuple #[.agg #[.int .i64 (m0 : Int), .int .i64 (m1 : Int), .int .i64 (m2 : Int), .int .i64 (m3 : Int), .int .i64 (m4 : Int)], .bool ((m0 : Int) % 2 == (at_ : Int))]) (by simp [results, Try.results83, go_sem, g0, g1, g2, g3, g4]) rfl ⟨by rw [HBe.out, HMo.out, mcs5, HOk.out, ← HBq.out]; rfl, HR.out⟩
end
end Ho
end Go.Proofs.Ytkfmmdiflbnhgaa
