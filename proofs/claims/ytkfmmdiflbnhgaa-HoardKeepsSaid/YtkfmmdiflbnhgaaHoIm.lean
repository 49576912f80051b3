/-
  Layer 14: the program's Image.
-/
import Derived.Test.YtkfmmdiflbnhgaaHoSys
import Derived.Test.YtkfmmdiflbnhgaaInA
namespace Go.Proofs.Ytkfmmdiflbnhgaa
set_option maxRecDepth 100000
open Go.RowKit
open Knot (Turns)
open Ta (IsBytes Stay sec nul ptr IsT C5 Tray)
open Sp (S SpB)
namespace Ho
section
variable {w x y : World} {h p q n : Nat} {H : Hd} {F : Nat → Prop}
set_option maxHeartbeats 16000000 in
set_option maxRecDepth 100000 in
theorem Hs.image (hs : Hs w x h p q n H F) (v : Value) (b : List UInt8) (hv : Stay F x fun x => IsBytes x v b) (hb : b.length ≤ 1000000) (hc : H.t.cache.length ≤ 80000) (hz : H.m.getD 0 0 + 1 < 1152921504606846976) (htl : H.s.tail ≤ 70368744177664) :
    Calls Try.prog 43 #[ptr h, v] x fun e y => e = .returned (.int .i64 (himage n H b).2) ∧ ∃ F', Hs w y h p q n (himage n H b).1 F' ∧ (∀ k, F' k → F k ∨ x.heap.size ≤ k) ∧ Turns (fun k => F k ∨ k = q ∨ k = h) x y := by
  obtain ⟨va, vc, rfl, -⟩ := hv.now
  have hqn : qu n ≤ 4096 := by have := hs.num; unfold qu; omega
  have HMo := Lib.hid (dmost_any (p := p) (s := qu n) hqn x)
  obtain ⟨⟨c0, c1⟩, -, -, c8, -⟩ := hs.box.cells
  have HS := Lib.hid (And.intro hs (And.intro hv (And.intro hc htl)))
  clear hs hv hc htl
  unfold dkV at HMo
  by_cases hlong : qu n * 128 < b.length
  · have HE := Lib.hid (show himage n H b = (H, 3) from if_pos hlong)
    have e1 : ((qu n * 128 : Nat) : Int) < (b.length : Int) := by omega
    clear hlong hqn
    generalize qu n * 128 = mo at *
    go_enter Try.func43, Try.ntmps43
    go_wp2_with fail
    refine HMo.out.mono ?_
    rintro e y ⟨rfl, hby⟩
    have HB := Lib.hid (And.intro (HS.out.1.on hby) hby)
    clear hby HMo c0 c1 c8
    go_wp2_with fail
    go_ret
    rw [HE.out]
    exact ⟨rfl, F, HB.out.1, fun _ h => .inl h, Turns.of_below HB.out.2⟩
  · by_cases hdead : H.dead = true
    · have HE := Lib.hid (show himage n H b = (H, 20) from by rw [himage, if_neg hlong, if_pos hdead])
      have e1 : ¬ ((qu n * 128 : Nat) : Int) < (b.length : Int) := by omega
      clear hlong hqn
      generalize qu n * 128 = mo at *
      go_enter Try.func43, Try.ntmps43
      go_wp2_with fail
      refine HMo.out.mono ?_
      rintro e y ⟨rfl, hby⟩
      have HB := Lib.hid (And.intro (HS.out.1.on hby) hby)
      obtain ⟨-, -, -, d8, -⟩ := HB.out.1.box.cells
      rw [hdead] at d8
      clear hby HMo c0 c1 c8 hdead
      go_wp2_with fail
      go_ret
      rw [HE.out]
      exact ⟨rfl, F, HB.out.1, fun _ h => .inl h, Turns.of_below HB.out.2⟩
    · have hdf : H.dead = false := by simpa using hdead
      obtain ⟨a0, ha0⟩ : ∃ a, a = H.m.getD 0 0 := ⟨_, rfl⟩
      obtain ⟨a1, ha1⟩ : ∃ a, a = H.m.getD 1 0 := ⟨_, rfl⟩
      obtain ⟨a2, ha2⟩ : ∃ a, a = H.m.getD 2 0 := ⟨_, rfl⟩
      obtain ⟨a3, ha3⟩ : ∃ a, a = H.m.getD 3 0 := ⟨_, rfl⟩
      obtain ⟨a4, ha4⟩ : ∃ a, a = H.m.getD 4 0 := ⟨_, rfl⟩
      have HAm := Lib.hid (show a2 ≤ 1 ∧ a0 + 1 < 1152921504606846976 ∧ a1 < 1152921504606846976 from ⟨by rw [ha2]; exact HS.out.1.fld, by rw [ha0]; exact hz, by rw [ha1]; exact HS.out.1.small.2⟩)
      obtain ⟨K, hK⟩ : ∃ K, K = keepT (2 + (1 - a2) * qu n) b [a0 + 1, a1, 1 - a2, b.length, H.s.tail] H.t := ⟨_, rfl⟩
      have HE := Lib.hid (show himage n H b = if K.2 = 0 then (⟨K.1, [a0 + 1, a1, 1 - a2, b.length, H.s.tail], { H.s with head := H.s.tail }, H.torn, H.dead⟩, 0) else ({ H with t := K.1, torn := true, dead := true }, 20) from by
        rw [himage, if_neg hlong, if_neg hdead, hK, ha0, ha1, ha2]
        rfl)
      have HHa := Lib.hid (And.intro ha0 (And.intro ha1 (And.intro ha2 (And.intro ha3 (And.intro ha4 hK)))))
      clear ha0 ha1 ha2 ha3 ha4 hK hz
      have HLo := Lib.hid (And.intro hlong (And.intro hb (And.intro hqn hdf)))
      have e1 : ¬ ((qu n * 128 : Nat) : Int) < (b.length : Int) := by omega
      clear hlong hdead hb hqn hdf
      generalize hmo : qu n * 128 = mo at *
      have HMq := Lib.hid hmo
      clear hmo
      go_enter Try.func43, Try.ntmps43
      go_wp2_with fail
      refine HMo.out.mono ?_
      rintro e y ⟨rfl, hby⟩
      have HB := Lib.hid (And.intro (HS.out.1.on hby) hby)
      obtain ⟨-, ⟨k0, k1, k2, k3, k4⟩, -, d8, -⟩ := HB.out.1.box.cells
      rw [HLo.out.2.2.2] at d8
      rw [← HHa.out.1] at k0
      rw [← HHa.out.2.1] at k1
      rw [← HHa.out.2.2.1] at k2
      rw [← HHa.out.2.2.2.1] at k3
      rw [← HHa.out.2.2.2.2.1] at k4
      have HNx := Lib.hid (next_any a0 a1 a2 a3 a4 (by have := HAm.out; omega) y)
      rw [mcs5, mcs5] at HNx
      clear hby HMo c0 c1 c8
      go_wp2_with fail
      refine HNx.out.mono ?_
      rintro e x2 ⟨rfl, hb2⟩
      clear k0 k1 k2 k3 k4 d8 HNx
      go_upto_region 6 with fail
      obtain ⟨X, hX⟩ : ∃ X, X = x2.alloc (.cells #[.int .i64 ((a0 : Int) + 1), .int .i64 (a1 : Int), .int .i64 (a2 : Int), .int .i64 (a3 : Int), .int .i64 (a4 : Int)] tPm) := ⟨_, rfl⟩
      rw [← hX]
      have hal : Below x2.heap.size x2 X := by rw [hX]; exact (Below.refl _ _).alloc (Nat.le_refl _) _
      have hyX : Below y.heap.size y X := hb2.trans (hal.mono hb2.size)
      have HX := Lib.hid (show Hs w X h p q n H F ∧ Below x.heap.size x X ∧ C5 x2.heap.size tPm (.int .i64 ((a0 : Int) + 1)) (.int .i64 (a1 : Int)) (.int .i64 (a2 : Int)) (.int .i64 (a3 : Int)) (.int .i64 (a4 : Int)) X ∧ x.heap.size ≤ x2.heap.size from ⟨HB.out.1.on hyX, HB.out.2.trans (hyX.mono HB.out.2.size), by rw [hX]; exact heap_alloc_new x2 _, Nat.le_trans HB.out.2.size hb2.size⟩)
      clear hX hal hyX hb2 HB
      generalize x2.heap.size = M at *
      have HF := Lib.hid (show ∀ z, Below X.heap.size X z → (z.cell? ⟨h, 7, none⟩ = some (ptr q)) ∧ C5 M tPm (.int .i64 ((a0 : Int) + 1)) (.int .i64 (a1 : Int)) (.int .i64 (a2 : Int)) (.int .i64 (a3 : Int)) (.int .i64 (a4 : Int)) z from fun z hz => ⟨(HX.out.1.box.on hz).cells.2.2.1, HX.out.2.2.1.on hz⟩)
      have HT := Lib.hid (show ∀ z, Below X.heap.size X z → _ from fun z hz => Sp.tail_any (HX.out.1.sys.spool.on hz))
      refine Order.beginE (fun z => Below X.heap.size X z) [3, 4, 10, 11, 12, 13, 14, 15] (by kernel_rfl) ?_
      apply Order.freeC (i := 3)
      · rfl
      · kernel_rfl
      · decide
      · decide +kernel
      · decide +kernel
      · exact fun _ _ _ _ _ h => Order.noPanic_put h
      · rfl
      · intro x
        go_simp
        rfl
      simp only [List.getElem_toArray, List.getElem_cons_succ, List.getElem_cons_zero, Act.put, List.setIfInBounds_toArray, List.set_cons_zero, List.set_cons_succ]
      apply Order.freeC (i := 4)
      · rfl
      · kernel_rfl
      · decide
      · decide +kernel
      · decide +kernel
      · exact fun _ _ _ _ _ h => Order.noPanic_put h
      · rfl
      · intro x
        go_simp
        rfl
      simp only [List.getElem_toArray, List.getElem_cons_succ, List.getElem_cons_zero, Act.put, List.setIfInBounds_toArray, List.set_cons_zero, List.set_cons_succ]
      refine Order.readsC_any (idx := [0, 1, 2]) (by kernel_rfl) (Below.refl _ _).drew (fun _ _ _ _ _ h => Order.noPanic_put h) 11 _ _ (by decide +kernel) ?_
      simp only [Order.pick, List.getElem?_toArray, List.getElem?_cons_zero, List.getElem?_cons_succ]
      repeat (first
        | (refine Order.reads_off (by rfl) ?_
           simp only [Act.put, List.setIfInBounds_toArray, List.set_cons_zero, List.set_cons_succ])
        | (apply Order.reads_on
           · rfl
           · intro x hx
             first
               | (obtain ⟨e7, hm5⟩ := HF.out x hx
                  obtain ⟨c0, c1, c2, c3, c4⟩ := hm5.cells
                  exact Order.load_at rfl rfl (by assumption))
               | (go_simp; rfl)
               | (obtain ⟨e7, hm5⟩ := HF.out x hx
                  obtain ⟨c0, c1, c2, c3, c4⟩ := hm5.cells
                  go_simp; rfl)
           simp only [Act.put, List.setIfInBounds_toArray, List.set_cons_zero, List.set_cons_succ]))
      refine Order.reads_end ?_
      apply Order.freeC (i := 10)
      · rfl
      · kernel_rfl
      · decide
      · decide +kernel
      · decide +kernel
      · exact fun _ _ _ _ _ h => Order.noPanic_put h
      · rfl
      · intro x
        go_simp
        rfl
      simp only [List.getElem_toArray, List.getElem_cons_succ, List.getElem_cons_zero, Act.put, List.setIfInBounds_toArray, List.set_cons_zero, List.set_cons_succ]
      refine Order.readsC_any (idx := [5, 6, 7, 8]) (by kernel_rfl) (Below.refl _ _).drew (fun _ _ _ _ _ h => Order.noPanic_put h) 6 _ _ (by decide +kernel) ?_
      simp only [Order.pick, List.getElem?_toArray, List.getElem?_cons_zero, List.getElem?_cons_succ]
      repeat (first
        | (refine Order.reads_off (by rfl) ?_
           simp only [Act.put, List.setIfInBounds_toArray, List.set_cons_zero, List.set_cons_succ])
        | (apply Order.reads_on
           · rfl
           · intro x hx
             first
               | (obtain ⟨e7, hm5⟩ := HF.out x hx
                  obtain ⟨c0, c1, c2, c3, c4⟩ := hm5.cells
                  exact Order.load_at rfl rfl (by assumption))
               | (go_simp; rfl)
               | (obtain ⟨e7, hm5⟩ := HF.out x hx
                  obtain ⟨c0, c1, c2, c3, c4⟩ := hm5.cells
                  go_simp; rfl)
           simp only [Act.put, List.setIfInBounds_toArray, List.set_cons_zero, List.set_cons_succ]))
      refine Order.reads_end ?_
      apply Order.actE (i := 9)
      · rfl
      · decide +kernel
      · rfl
      unfold Oper.wp
      go_simp
      refine (HT.out _ (Below.refl _ _).drew).mono ?_
      rintro e z ⟨rfl, rfl⟩
      have hbd : Below X.heap.size X X.drew := (Below.refl _ _).drew
      refine ⟨hbd, ?_⟩
      have HD := Lib.hid (show Hs w X.drew h p q n H F ∧ Below x.heap.size x X.drew ∧ C5 M tPm (.int .i64 ((a0 : Int) + 1)) (.int .i64 (a1 : Int)) (.int .i64 (a2 : Int)) (.int .i64 (a3 : Int)) (.int .i64 (a4 : Int)) X.drew from ⟨HX.out.1.on hbd, HX.out.2.1.trans (hbd.mono HX.out.2.1.size), HX.out.2.2.1.on hbd⟩)
      have hxM := HX.out.2.2.2
      have hMh : M ≠ h := fun e => by have := HS.out.1.box.lt; omega
      have hMq : M ≠ q := fun e => by have := HS.out.1.sys.spool.lt; omega
      have hMF : ¬ F M := fun e => by have := HS.out.1.sys.tray.low M e; omega
      clear hbd HT HF HX
      generalize X.drew = D at *
      have hw2 : IntKind.i64.wrap (1 - (a2 : Int)) = ((1 - a2 : Nat) : Int) := by
        have := HAm.out.1
        rw [IntKind.wrap_i64] <;> omega
      rw [hw2]
      obtain ⟨N, hN⟩ : ∃ N, N = ((D.setCell ⟨M, 2, none⟩ (.int .i64 ((1 - a2 : Nat) : Int))).setCell ⟨M, 3, none⟩ (.int .i64 (b.length : Int))).setCell ⟨M, 4, none⟩ (.int .i64 (H.s.tail : Int)) := ⟨_, rfl⟩
      have hN5 : C5 M tPm (.int .i64 ((a0 + 1 : Nat) : Int)) (.int .i64 (a1 : Int)) (.int .i64 ((1 - a2 : Nat) : Int)) (.int .i64 (b.length : Int)) (.int .i64 (H.s.tail : Int)) N := by
        rw [hN]
        have r1 := heap_setCell_same D M 2 _ _ (.int .i64 ((1 - a2 : Nat) : Int)) HD.out.2.2
        have r2 := heap_setCell_same _ M 3 _ _ (.int .i64 (b.length : Int)) r1
        exact heap_setCell_same _ M 4 _ _ (.int .i64 (H.s.tail : Int)) r2
      have hNt : Turns (fun k => k = M) D N := by
        rw [hN]
        exact (((Turns.refl (fun k => k = M) D).setCell (p := ⟨M, 2, none⟩) rfl _).setCell (p := ⟨M, 3, none⟩) rfl _).setCell (p := ⟨M, 4, none⟩) rfl _
      have hHN : Hs w N h p q n H F := ⟨HD.out.1.sys.turn hNt fun k e => by subst e; exact ⟨by have := HD.out.1.sys.below.size; have := HS.out.1.sys.below.size; omega, hMF, hMq⟩, HD.out.1.box.turn hNt (Ne.symm hMh), HD.out.1.off, HD.out.1.n64, HD.out.1.fld, HD.out.1.small⟩
      have HN := Lib.hid (And.intro hHN (And.intro (HD.out.2.1.trans (hNt.below HD.out.2.1.size fun k e => by omega)) hN5))
      obtain ⟨c0, c1, c2, c3, c4⟩ := HD.out.2.2.cells
      obtain ⟨f0, f1, f2, f3, f4⟩ := HD.out.2.2.free
      clear hN5 hNt hHN hw2
      apply Order.lastE (i := 11)
      · rfl
      · decide +kernel
      · decide
      · rfl
      unfold Oper.wp
      go_simp
      apply Order.lastE (i := 12)
      · rfl
      · decide +kernel
      · decide
      · rfl
      unfold Oper.wp
      go_simp
      apply Order.lastE (i := 13)
      · rfl
      · decide +kernel
      · decide
      · rfl
      unfold Oper.wp
      go_simp
      apply Order.lastE (i := 14)
      · rfl
      · decide +kernel
      · decide
      · rfl
      unfold Oper.wp
      go_simp
      apply Order.lastE (i := 15)
      · rfl
      · decide +kernel
      · decide
      · rfl
      unfold Oper.wp
      go_simp
      rw [← hN]
      clear c0 c1 c2 c3 c4 f0 f1 f2 f3 f4 hN HD
      refine Order.doneE (by decide +kernel) ?_ _
      refine NoPanic.normal ?_
      go_upto_region 7 with fail
      have hNd : Below N.heap.size N N.drew := (Below.refl _ _).drew
      have hkp := keep_any (a0 + 1) a1 (1 - a2) b.length H.s.tail (.slice va b.length vc) b (HN.out.1.sys.tray.below hNd) HS.out.1.n64 (by
        have h1 := HAm.out
        have h2 := HLo.out.2.1
        have h3 := HS.out.2.2.2
        simp only [List.mem_cons, List.not_mem_nil, or_false]
        rintro m (rfl | rfl | rfl | rfl | rfl) <;> omega) (by omega) (HS.out.2.1.below (HN.out.2.1.trans (hNd.mono HN.out.2.1.size))) (by have := HLo.out.1; have := HMq.out; omega) HS.out.2.2.1
      rw [← HHa.out.2.2.2.2.2] at hkp
      rw [mcs5] at hkp
      unfold dkV at hkp
      have HK := Lib.hid hkp
      clear hkp
      have HF := Lib.hid (show ∀ z, Turns (fun k => F k ∨ N.heap.size ≤ k) N z → (z.cell? ⟨h, 0, none⟩ = some (ptr p) ∧ z.cell? ⟨h, 1, none⟩ = some (.int .i64 (qu n : Int))) ∧ C5 M tPm (.int .i64 ((a0 + 1 : Nat) : Int)) (.int .i64 (a1 : Int)) (.int .i64 ((1 - a2 : Nat) : Int)) (.int .i64 (b.length : Int)) (.int .i64 (H.s.tail : Int)) z from fun z hz => by
        have hbz := HN.out.1.box.turn hz fun e => e.elim HN.out.1.off.1 fun e => by have := HN.out.1.box.lt; omega
        exact ⟨hbz.cells.1, HN.out.2.2.turn hz fun e => e.elim hMF fun e => by have := (Array.getElem?_eq_some_iff.1 HN.out.2.2).1; omega⟩)
      refine Order.region_begin (S := Turns (fun k => F k ∨ N.heap.size ≤ k) N.drew) (by kernel_rfl) ?_
      refine Order.reads_any (idx := [0, 1, 2, 3, 4, 5]) (by kernel_rfl) (Turns.refl _ _) (fun _ _ _ _ _ h => Order.noPanic_put h) 2 _ _ (by decide +kernel) ?_
      simp only [Order.pick, List.getElem?_toArray, List.getElem?_cons_zero, List.getElem?_cons_succ]
      repeat (first
        | (refine Order.reads_off (by rfl) ?_
           simp only [Act.put, List.setIfInBounds_toArray, List.set_cons_zero, List.set_cons_succ])
        | (apply Order.reads_on
           · rfl
           · intro x hx
             first
               | (go_simp; rfl)
               | (obtain ⟨⟨g0, g1⟩, hm5⟩ := HF.out x (Turns.after_below (Below.refl _ _).drew hx)
                  obtain ⟨c0, c1, c2, c3, c4⟩ := hm5.cells
                  go_simp; rfl)
           simp only [Act.put, List.setIfInBounds_toArray, List.set_cons_zero, List.set_cons_succ]))
      refine Order.reads_end ?_
      apply Order.acts_any (R := (Turns (fun k => F k ∨ N.heap.size ≤ k))) (fun h k => h.trans k fun _ _ h => h) (i := 6)
      · rfl
      · decide +kernel
      · rfl
      unfold Oper.wp
      go_simp
      refine HK.out.mono ?_
      rintro e x3 ⟨rfl, ht3, F3, hi3, hF3⟩
      refine ⟨ht3.mono fun _ _ h => .inl h, ?_⟩
      refine Order.reads_any (idx := [7]) (by kernel_rfl) (Turns.refl _ _) (fun _ _ _ _ _ h => Order.noPanic_put h) 0 _ _ (by decide +kernel) ?_
      simp only [Order.pick, List.getElem?_toArray, List.getElem?_cons_zero, List.getElem?_cons_succ]
      repeat (first
        | (refine Order.reads_off (by rfl) ?_
           simp only [Act.put, List.setIfInBounds_toArray, List.set_cons_zero, List.set_cons_succ])
        | (apply Order.reads_on
           · rfl
           · intro x hx
             first
               | (go_simp; rfl)
               | (fail
                  go_simp; rfl)
           simp only [Act.put, List.setIfInBounds_toArray, List.set_cons_zero, List.set_cons_succ]))
      refine Order.reads_end ?_
      refine wpAnyH_done (by decide +kernel) ?_ _
      refine NoPanic.normal ?_
      have ht3' : Turns F N x3 := Turns.after_below hNd ht3
      have hb3 := HN.out.1.box.turn ht3' HN.out.1.off.1
      have hsp3 := HN.out.1.sys.spool.turn ht3' HN.out.1.sys.off
      have hF3' : ∀ k, F3 k → F k ∨ x.heap.size ≤ k := fun k hk => (hF3 k hk).imp id fun h => Nat.le_trans HN.out.2.1.size h
      have hsy3 : Sp.Sys w x3 p q n K.1 H.s F3 := by
        have hy := HN.out.1.sys
        refine ⟨hy.below.trans (ht3'.below hy.below.size fun k hk => hy.new k hk), hi3, hsp3, hy.fits, hy.room, fun e => ?_, fun k hk => ?_, hy.newq⟩
        · rcases hF3' q e with e | e
          · exact hy.off e
          · have := HS.out.1.sys.spool.lt; omega
        · rcases hF3' k hk with e | e
          · exact hy.new k e
          · exact Nat.le_trans HS.out.1.sys.below.size e
      have hoff3 : ¬ F3 h := fun e => by
        rcases hF3' h e with e | e
        · exact HS.out.1.off.1 e
        · have := HS.out.1.box.lt; omega
      have hm3 : C5 M tPm (.int .i64 ((a0 + 1 : Nat) : Int)) (.int .i64 (a1 : Int)) (.int .i64 ((1 - a2 : Nat) : Int)) (.int .i64 (b.length : Int)) (.int .i64 (H.s.tail : Int)) x3 := HN.out.2.2.turn ht3' hMF
      have htx : Turns F x x3 := (Turns.of_below HN.out.2.1).trans ht3' fun _ _ h => h
      have HQ := Lib.hid (show Sp.Sys w x3 p q n K.1 H.s F3 ∧ HoB x3 h p q n H ∧ ¬ F3 h ∧ (∀ k, F3 k → F k ∨ x.heap.size ≤ k) ∧ Turns F x x3 ∧ C5 M tPm (.int .i64 ((a0 + 1 : Nat) : Int)) (.int .i64 (a1 : Int)) (.int .i64 ((1 - a2 : Nat) : Int)) (.int .i64 (b.length : Int)) (.int .i64 (H.s.tail : Int)) x3 from ⟨hsy3, hb3, hoff3, hF3', htx, hm3⟩)
      clear ht3 hi3 hF3 ht3' hb3 hsp3 hF3' hsy3 hoff3 hm3 htx HF HK HN hNd
      by_cases hok : K.2 = 0
      · rw [decide_eq_true hok]
        have HE2 := Lib.hid (show himage n H b = (⟨K.1, [a0 + 1, a1, 1 - a2, b.length, H.s.tail], { H.s with head := H.s.tail }, H.torn, H.dead⟩, 0) from by rw [HE.out, if_pos hok])
        clear hok
        go_upto_region 10 with fail
        obtain ⟨N2, hN2⟩ : ∃ N2, N2 = ((((x3.setCell ⟨h, 2, none⟩ (.int .i64 ((a0 : Int) + 1))).setCell ⟨h, 3, none⟩ (.int .i64 (a1 : Int))).setCell ⟨h, 4, none⟩ (.int .i64 ((1 - a2 : Nat) : Int))).setCell ⟨h, 5, none⟩ (.int .i64 (b.length : Int))).setCell ⟨h, 6, none⟩ (.int .i64 (H.s.tail : Int)) := ⟨_, rfl⟩
        have hb2 : HoB N2 h p q n ⟨K.1, [a0 + 1, a1, 1 - a2, b.length, H.s.tail], { H.s with head := H.s.tail }, H.torn, H.dead⟩ := by
          rw [hN2]
          exact heap_setCell_same _ h 6 _ _ _ (heap_setCell_same _ h 5 _ _ _ (heap_setCell_same _ h 4 _ _ _ (heap_setCell_same _ h 3 _ _ _ (heap_setCell_same x3 h 2 _ _ _ HQ.out.2.1))))
        have ht2 : Turns (fun k => k = h) x3 N2 := by
          rw [hN2]
          exact (((((Turns.refl (fun k => k = h) x3).setCell (p := ⟨h, 2, none⟩) rfl _).setCell (p := ⟨h, 3, none⟩) rfl _).setCell (p := ⟨h, 4, none⟩) rfl _).setCell (p := ⟨h, 5, none⟩) rfl _).setCell (p := ⟨h, 6, none⟩) rfl _
        obtain ⟨⟨d0, d1⟩, ⟨d2, d3, d4, d5, d6⟩, d7, -⟩ := HQ.out.2.1.cells
        have f2 := HQ.out.2.1.free 2
        have f3 := HQ.out.2.1.free 3
        have f4 := HQ.out.2.1.free 4
        have f5 := HQ.out.2.1.free 5
        have f6 := HQ.out.2.1.free 6
        obtain ⟨c0, c1, c2, c3, c4⟩ := HQ.out.2.2.2.2.2.cells
        have hsy2 : Sp.Sys w N2 p q n K.1 H.s F3 := HQ.out.1.turn ht2 fun k e => by subst e; exact ⟨HS.out.1.off.2.2, HQ.out.2.2.1, HS.out.1.off.2.1⟩
        have HCu := Lib.hid hsy2.cut
        have HN2 := Lib.hid (And.intro hb2 ht2)
        clear hb2 ht2 hsy2
        go_upto_region 11 with fail
        rw [← hN2]
        clear d0 d1 d2 d3 d4 d5 d6 d7 f2 f3 f4 f5 f6 c0 c1 c2 c3 c4 hN2
        obtain ⟨-, -, d7, -⟩ := HN2.out.1.cells
        go_wp2_with fail
        refine HCu.out.mono ?_
        rintro e y4 ⟨rfl, hs4, ht4⟩
        have hb4 := HN2.out.1.turn ht4 HS.out.1.off.2.1
        have hfin : Hs w y4 h p q n ⟨K.1, [a0 + 1, a1, 1 - a2, b.length, H.s.tail], { H.s with head := H.s.tail }, H.torn, H.dead⟩ F3 := ⟨hs4, hb4, ⟨HQ.out.2.2.1, HS.out.1.off.2⟩, HS.out.1.n64, by show 1 - a2 ≤ 1; omega, by show a0 + 1 < _ ∧ a1 < _; exact HAm.out.2⟩
        have HFi := Lib.hid (And.intro hfin (show Turns (fun k => F k ∨ k = q ∨ k = h) x y4 from ((HQ.out.2.2.2.2.1.mono fun _ _ e => .inl e).trans HN2.out.2 fun k _ e => .inr (.inr e)).trans ht4 fun k _ e => .inr (.inl e)))
        clear hs4 ht4 hb4 hfin HCu d7
        go_wp2_with fail
        go_ret
        rw [HE2.out]
        exact ⟨rfl, F3, HFi.out.1, HQ.out.2.2.2.1, HFi.out.2⟩
      · rw [decide_eq_false hok]
        have HE2 := Lib.hid (show himage n H b = ({ H with t := K.1, torn := true, dead := true }, 20) from by rw [HE.out, if_neg hok])
        clear hok
        have f8 := HQ.out.2.1.free 8
        have f9 := HQ.out.2.1.free 9
        obtain ⟨-, -, -, d8, d9⟩ := HQ.out.2.1.cells
        obtain ⟨N2, hN2⟩ : ∃ N2, N2 = (x3.setCell ⟨h, 8, none⟩ (.bool true)).setCell ⟨h, 9, none⟩ (.bool true) := ⟨_, rfl⟩
        have hb2 : HoB N2 h p q n { H with t := K.1, torn := true, dead := true } := by
          rw [hN2]
          exact heap_setCell_same _ h 9 _ _ (.bool true) (heap_setCell_same x3 h 8 _ _ (.bool true) HQ.out.2.1)
        have ht2 : Turns (fun k => k = h) x3 N2 := by
          rw [hN2]
          exact ((Turns.refl (fun k => k = h) x3).setCell (p := ⟨h, 8, none⟩) rfl _).setCell (p := ⟨h, 9, none⟩) rfl _
        have hfin : Hs w N2 h p q n { H with t := K.1, torn := true, dead := true } F3 := ⟨HQ.out.1.turn ht2 fun k e => by subst e; exact ⟨HS.out.1.off.2.2, HQ.out.2.2.1, HS.out.1.off.2.1⟩, hb2, ⟨HQ.out.2.2.1, HS.out.1.off.2⟩, HS.out.1.n64, HS.out.1.fld, HS.out.1.small⟩
        have HFi := Lib.hid (And.intro hfin (show Turns (fun k => F k ∨ k = q ∨ k = h) x N2 from (HQ.out.2.2.2.2.1.mono fun _ _ e => .inl e).trans ht2 fun k _ e => .inr (.inr e)))
        clear hb2 ht2 hfin
        go_wp2_with fail
        rw [← hN2]
        go_ret
        rw [HE2.out]
        exact ⟨rfl, F3, HFi.out.1, HQ.out.2.2.2.1, HFi.out.2⟩
end
end Ho
end Go.Proofs.Ytkfmmdiflbnhgaa
