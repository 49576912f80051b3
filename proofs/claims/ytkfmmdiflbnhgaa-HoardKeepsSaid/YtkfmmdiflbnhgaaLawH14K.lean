/-
  HoardKeeps, walked: wherever the power goes, what is opened again is what was kept with OK, and perhaps, whole, the record or the image that was being kept.
-/
import Derived.Test.YtkfmmdiflbnhgaaHoKs
import Derived.Deep.CutBlock
namespace Go.Proofs.Ytkfmmdiflbnhgaa
set_option maxRecDepth 100000
open Go.RowKit
open Knot (Turns NewRow)
open Ta (IsBytes IsFlags IsActs Stay sec nul ptr IsT Tray Made Grow)
open Sp (Recs IsRecs parts append bytes_str str_inj tBss tBs recs_nil rdS)
namespace Ho
theorem pow_k (z : Int) : 0 ≤ wrap64 ((IntKind.u64.wrap z).tmod 300) ∧ wrap64 ((IntKind.u64.wrap z).tmod 300) ≤ 299 := by
  have h : 0 ≤ IntKind.u64.wrap z := by unfold IntKind.wrap; simp [IntKind.signed, IntKind.bits]; omega
  rw [Int.tmod_eq_emod_of_nonneg h]
  generalize IntKind.u64.wrap z = u at *
  unfold wrap64
  omega
theorem one_cell {G : Nat → Prop} {y : World} : ∀ u b, (fun u b => Stay G y (fun x => IsBytes x u b)) u b → u.oneCell' = true := fun u b h => by
  obtain ⟨a, c, rfl, -⟩ := Stay.now h
  rfl
theorem nil_recs (x : World) : IsRecs x (.slice none 0 0) [] := ⟨none, 0, rfl, Nat.le_refl _, Nat.zero_le _, fun h => absurd rfl h⟩
namespace LawH14K
set_option maxHeartbeats 64000000 in
set_option maxRecDepth 100000 in
theorem walk (b0 : List UInt8) (v0 : Value) (l : List Ta.Act) (v : Value) (w : World) (hb0 : IsBytes w v0 b0) (hv : IsActs w v l) :
    Calls Try.prog 10 #[v0, v] w fun e x => e = .returned (.bool true) ∧ Below w.heap.size w x := by
  have HI := Lib.hid hb0
  have HV := Lib.hid hv
  obtain ⟨ia, ic, rfl, gi1, gi2, -⟩ := hb0
  have hli : b0.length ≤ 9223372036854775807 := Nat.le_trans gi1 (Nat.le_trans gi2 (by decide))
  obtain ⟨ao, cap, rfl, hlen⟩ := acts_len hv
  clear gi1 gi2
  have hp80 : (80 : Int) = ((80 : Nat) : Int) := rfl
  have HN := Lib.hid (Ta.new_any 80 (by omega) w)
  rw [← hp80] at HN
  clear hp80 hv
  go_enter Try.func10, Try.ntmps10
  go_wp2_with fail
  refine HN.out.mono ?_
  rintro e x1 ⟨p, rfl, hb, hi⟩
  have H1 := Lib.hid (And.intro hb hi)
  clear hb hi HN
  have h00 : ((0 : Int) != 0) = false := rfl
  go_wp2_with fail
  refine (awake_any x1).mono ?_
  rintro e x2 ⟨rfl, hb⟩
  have H2 := Lib.hid (And.intro (H1.out.1.trans (hb.mono H1.out.1.size)) (H1.out.2.below hb))
  have HFw := Lib.hid (few_any _ l (HV.out.below H2.out.1))
  clear hb H1
  go_wp2_with fail
  refine HFw.out.mono ?_
  rintro e x3 ⟨rfl, hb⟩
  have H3 := Lib.hid (And.intro (H2.out.1.trans (hb.mono H2.out.1.size)) (H2.out.2.below hb))
  clear hb HFw H2
  by_cases hfew : Few l
  · have HFew := Lib.hid hfew
    have hdf : decide (Few l) = true := decide_eq_true hfew
    rw [hdf]
    clear hfew hdf
    by_cases hbig : 2000 < b0.length
    · have e1 : (2000 : Int) < (b0.length : Int) := by omega
      clear hbig
      go_wp2_with fail
      refine (awake_any x3).mono ?_
      rintro e x4 ⟨rfl, hb⟩
      have H4 := Lib.hid (H3.out.1.trans (hb.mono H3.out.1.size))
      clear hb
      go_wp2_with fail
      go_ret
      exact ⟨rfl, H4.out⟩
    · have e1 : ¬ (2000 : Int) < (b0.length : Int) := by omega
      have HLy := Lib.hid (laid_any H3.out.1 H3.out.2 (fun k hk => hk.1) (.slice ia b0.length ic) b0 (in_stay HI.out H3.out.1 fun k hk => hk.1) (by omega) (by show b0.length ≤ 19 * 128; omega))
      clear hbig
      go_wp2_with fail
      refine HLy.out.mono ?_
      rintro e x4 ⟨q, h, F0, rfl, hs, hf, -, -, -⟩
      have hcs := bytes_str (HI.out.below hs.sys.below)
      have HK := Lib.hid (show Kst w x4 p 0 (ptr h) (.string (Ta.str b0)) (.slice none 0 0) (.string (Ta.str b0)) (.slice none 0 0) (.bool false) from
        .inl ⟨h, q, _, F0, 1, 0, b0, [], rfl, rfl, rfl, rfl, Hk.none hs, hf, by omega, Nat.le_refl _, by
          show (Sp.found Tray.fresh (ringS 80 0 1)).2 ≤ _
          rw [Sp.found_fresh]
          exact Nat.le_refl _, Nat.le_refl _⟩)
      clear hs hf HLy H3
      go_wp2_with fail
      go_loopw [5, 7, 9, 10, 11, 12, 13, 64] (fun vt vh vs vu vo vb vd vi x => ∃ (j p : Nat), j ≤ l.length ∧ vt = ptr p ∧ vi = .int .i64 (j : Int) ∧ Hid (Kst w x p j vh vs vu vo vb vd)) (fun _ _ _ _ _ _ _ i _ => l.length - (intOf i).toNat)
      case atStart => exact ⟨0, p, Nat.zero_le _, rfl, rfl, HK.out⟩
      case round =>
        clear HK
        obtain ⟨j, p', hj, rfl, rfl, HX⟩ := hrel
        by_cases hlt : j < l.length
        · obtain ⟨g, o, hix, ob, oc, cb, cc, a0, a1, a2, a3, hbs, hfs⟩ := act_at HV.out HX.out.below hlt
          have hfl := HFew.out.2 _ (List.getElem_mem hlt)
          have hj30 : j < 30 := by have := HFew.out.1; omega
          generalize l[j] = ac at *
          obtain ⟨kd, at_, bb, fc⟩ := ac
          simp only at a0 a1 a2 a3 hbs hfs hfl
          obtain ⟨X, hX⟩ : ∃ X, X = wr.alloc (.cells #[.int .i64 kd, .int .i64 at_, .slice ob bb.length cb, .slice oc fc.length cc] tAc) := ⟨_, rfl⟩
          have hbx : Below wr.heap.size wr X := by rw [hX]; exact (Below.refl _ _).alloc (Nat.le_refl _) _
          have hbox : X.heap[wr.heap.size]? = some (.cells #[.int .i64 kd, .int .i64 at_, .slice ob bb.length cb, .slice oc fc.length cc] tAc (0, 0)) := by rw [hX]; exact heap_alloc_new wr _
          have HA := Lib.hid (And.intro hbox (And.intro hbs (And.intro hfs hfl)))
          have HX2 := Lib.hid (HX.out.next hbx)
          clear hbx hbox hbs hfs hfl
          go_upto_region 13 with fail
          rw [← hX]
          clear hX a0 a1 a2 a3 hix HX
          generalize wr.heap.size = A at *
          obtain ⟨q0, q1, q2, q3⟩ : X.cell? ⟨A, 0, none⟩ = some (.int .i64 kd) ∧ X.cell? ⟨A, 1, none⟩ = some (.int .i64 at_) ∧ X.cell? ⟨A, 2, none⟩ = some (.slice ob bb.length cb) ∧ X.cell? ⟨A, 3, none⟩ = some (.slice oc fc.length cc) := by
            refine ⟨?_, ?_, ?_, ?_⟩ <;> (rw [Lib.cell_of_heap HA.out.1]; rfl)
          go_upto_region 14 with fail
          by_cases hk1 : kd = 1
          · have ek1 : (kd == 1) = true := by simp [hk1]
            rcases HX2.out with ⟨h, q, H, F, a, f, img, r, rfl, rfl, rfl, rfl, hka, hlow⟩ | ⟨u, F, i1, L1, i2, L2, rfl, rfl, rfl, hkq⟩
            · have HKa := Lib.hid hka
              have HS := Lib.hid (hka.hk.hs.keep (.slice ob bb.length cb) bb (in_stay HA.out.2.1 hka.hk.hs.sys.below hka.hk.hs.sys.new) (by have := HA.out.2.2.2.1; omega) (by rw [hka.fm.live.cache]; exact Nat.zero_le _) (by have := hka.nt; omega))
              have hA : ¬ (F A ∨ A = q ∨ A = h) := fun hk => by have := hlow A hk; omega
              clear hk1 hka hlow HX2
              go_wp2_with fail
              refine HS.out.mono ?_
              rintro e y ⟨rfl, F2, hs2, hF2, hty⟩
              have hkn := HKa.out.hk.next hs2 hF2 hty
              have hbA := hty.heap HA.out.1 hA
              have y2 : y.cell? ⟨A, 2, none⟩ = some (.slice ob bb.length cb) := by rw [Lib.cell_of_heap hbA]; rfl
              have HY := Lib.hid (And.intro (Array.getElem?_eq_some_iff.1 hbA).1 y2)
              have hcc := hkeep_cache (H := H) (b := bb)
              have HA0 := Lib.hid (show H.t.cache.length = 0 ∧ parts bb.length ≤ 28 ∧ r.length ≤ 30 from ⟨by rw [HKa.out.fm.live.cache]; rfl, by have := HA.out.2.2.2.1; unfold parts; omega, by have := HKa.out.nr; omega⟩)
              have hcs := HKa.out.fm.keep (b := bb) (by have := HA.out.2.2.2.1; omega) (fun kk => by
                have := hs2.lens
                rw [show (hkeep H bb).1.t = (append H.s bb H.t).1 from by rw [hkeep, if_neg (by rw [HKa.out.fm.alive.2]; decide)]] at this
                exact this _)
              obtain ⟨PP, hPP⟩ : ∃ PP : Value → List UInt8 → Prop, PP = fun u b => Stay (fun k => (F2 k ∨ k = q ∨ k = h) ∨ u10.ownBlock = some k) y (fun x => IsBytes x u b) := ⟨_, rfl⟩
              have HP := Lib.hid (show (∀ u b, PP u b → u.oneCell' = true) ∧ RecsP PP y u10 (r.map Prod.fst) ∧ PP (.slice ob bb.length cb) bb ∧ ([] ++ r.map Prod.fst).length + [bb].length ≤ 1000000 ∧ 0 + (r.map Prod.fst).length ≤ 1000000 from by
                have hl := HA0.out.2.2
                rw [hPP]
                refine ⟨one_cell, recs_p hkn.rows, in_stay HA.out.2.1 hkn.hs.sys.below fun k hk => hk.elim (hkn.new k) fun e => (hkn.rows.row_lt e).1, by simp; omega, by simp; omega⟩)
              have HMr := Lib.hid (show ∀ x v L, MoreP PP y x v L → Recs w.heap.size (fun k => F2 k ∨ k = q ∨ k = h) x v L from fun x v L hm => by
                rw [hPP] at hm
                exact hm.recs hkn.hs.sys.below.size)
              have HKn := Lib.hid hkn
              clear hPP q0 q1 q2 q3 HS hs2 hF2 hty hbA hA hkn
              go_upto_region 16 with fail
              go_cut [12] from 80 to 86 (fun v wx => Hid (MoreP PP y wx v (r.map Prod.fst ++ [bb])))
              case first =>
                clear hcs hcc
                have HF := Lib.hid (fun (x : World) (hx : Below y.heap.size y x) => (show x.cell? ⟨A, 2, none⟩ = some (.slice ob bb.length cb) from (hx.cell (p := ⟨A, 2, none⟩) HY.out.1).trans HY.out.2))
                have HB0 := Lib.hid (show Below y.heap.size y y.drew from (Below.refl _ _).drew)
                clear y2
                refine Order.beginE (fun x => Below y.heap.size y x) [] (by kernel_rfl) ?_
                refine Order.readsE_any (idx := [1, 3, 4]) (by kernel_rfl) (Below.refl _ _).drew (fun _ _ _ _ _ h => Order.noPanic_put h) 5 _ _ (by decide +kernel) ?_
                simp only [Order.pick, List.getElem?_toArray, List.getElem?_cons_zero, List.getElem?_cons_succ]
                repeat (first
                  | (refine Order.reads_off (by rfl) ?_
                     simp only [Act.put, List.setIfInBounds_toArray, List.set_cons_zero, List.set_cons_succ])
                  | (apply Order.reads_on
                     · rfl
                     · intro x hx
                       first
                         | (have c2 := HF.out x hx
                            exact Order.load_at rfl rfl (by assumption))
                         | (go_simp; rfl)
                         | (have c2 := HF.out x hx
                            go_simp; rfl)
                     simp only [Act.put, List.setIfInBounds_toArray, List.set_cons_zero, List.set_cons_succ]))
                refine Order.reads_end ?_
                apply Order.actE2 (i := 0) (j := 5)
                · rfl
                · rfl
                · decide +kernel
                · rfl
                · rfl
                · simp only [List.getElem_toArray, List.getElem_cons_zero]
                  refine Order.wp_lit0 rfl (Sp.empty_recs _) ?_
                  have m0 := moreP_empty (P := PP) HB0.out
                  refine ⟨m0.1, ?_⟩
                  apply Order.actE2 (i := 2) (j := 5)
                  · rfl
                  · rfl
                  · decide +kernel
                  · rfl
                  · rfl
                  · simp only [List.getElem_toArray, List.getElem_cons_succ, List.getElem_cons_zero]
                    refine op_more _ _ rfl rfl rfl HP.out.1 m0 (HP.out.2.1.below m0.1) (by rw [List.length_nil]; exact HP.out.2.2.2.2) ?_
                    rintro v' x3 m1 -
                    refine ⟨m1.1, ?_⟩
                    apply Order.actE (i := 5)
                    · rfl
                    · decide +kernel
                    · rfl
                    simp only [List.getElem_toArray, List.getElem_cons_succ, List.getElem_cons_zero]
                    refine Order.wp_lit1 rfl rfl (one_recs _ _ _ _) ?_
                    have m1' := m1.on ((Below.refl x3.heap.size x3).alloc (Nat.le_refl _) (.cells #[.slice ob bb.length cb] tBs))
                    have hce : (x3.alloc (.cells #[.slice ob bb.length cb] tBs)).cell? ⟨x3.heap.size, 0, none⟩ = some (.slice ob bb.length cb) := by rw [Lib.cell_of_heap (heap_alloc_new x3 _)]; rfl
                    refine ⟨m1'.1, ?_⟩
                    apply Order.actE (i := 6)
                    · rfl
                    · decide +kernel
                    · rfl
                    simp only [List.getElem_toArray, List.getElem_cons_succ, List.getElem_cons_zero]
                    refine op_more _ _ rfl rfl rfl HP.out.1 m1' (RecsP.one hce HP.out.2.2.1) HP.out.2.2.2.1 ?_
                    rintro v2 x4 m2 -
                    refine ⟨m2.1, ?_⟩
                    have hb2 := m2.1
                    refine Order.readsE_any (idx := [7]) (by kernel_rfl) hb2 (fun _ _ _ _ _ h => Order.noPanic_put h) 0 _ _ (by decide +kernel) ?_
                    simp only [Order.pick, List.getElem?_toArray, List.getElem?_cons_zero, List.getElem?_cons_succ]
                    repeat (first
                      | (refine Order.reads_off (by rfl) ?_
                         simp only [Act.put, List.setIfInBounds_toArray, List.set_cons_zero, List.set_cons_succ])
                      | (apply Order.reads_on
                         · rfl
                         · intro x hx
                           first
                             | (go_simp; rfl)
                             | (fail
                                go_simp; rfl)
                         simp only [Act.put, List.setIfInBounds_toArray, List.set_cons_zero, List.set_cons_succ]))
                    refine Order.reads_end ?_
                    refine Order.doneE (by decide +kernel) ?_ _
                    refine NoPanic.normal ?_
                    have HM2 := Lib.hid m2
                    clear m2 hb2
                    go_wp2_with fail
                    go_meet
                    case rel => exact HM2.out
                  · simp only [List.getElem_toArray, List.getElem_cons_succ, List.getElem_cons_zero]
                    refine Order.wp_lit1 rfl rfl (one_recs _ _ _ _) ?_
                    have hal := (Below.refl (y.drew.alloc (.cells #[] tBs)).heap.size (y.drew.alloc (.cells #[] tBs))).alloc (Nat.le_refl _) (.cells #[.slice ob bb.length cb] tBs)
                    have m0' := m0.on hal
                    have hblk := heap_alloc_new (y.drew.alloc (.cells #[] tBs)) (.cells #[.slice ob bb.length cb] tBs)
                    refine ⟨m0'.1, ?_⟩
                    apply Order.actE (i := 2)
                    · rfl
                    · decide +kernel
                    · rfl
                    simp only [List.getElem_toArray, List.getElem_cons_succ, List.getElem_cons_zero]
                    refine op_more (v := .slice (some ⟨y.drew.heap.size, 0, none⟩) 0 0) _ _ rfl rfl rfl HP.out.1 m0' (HP.out.2.1.below m0'.1) (by rw [List.length_nil]; exact HP.out.2.2.2.2) ?_
                    intro v' x3 m1 ht
                    have hce : x3.cell? ⟨(y.drew.alloc (.cells #[] tBs)).heap.size, 0, none⟩ = some (.slice ob bb.length cb) := by
                      rw [Lib.cell_of_heap (ht.heap hblk (by simp [Value.ownBlock]))]; rfl
                    refine ⟨m1.1, ?_⟩
                    apply Order.actE (i := 6)
                    · rfl
                    · decide +kernel
                    · rfl
                    simp only [List.getElem_toArray, List.getElem_cons_succ, List.getElem_cons_zero]
                    refine op_more _ _ rfl rfl rfl HP.out.1 m1 (RecsP.one hce HP.out.2.2.1) HP.out.2.2.2.1 ?_
                    rintro v2 x4 m2 -
                    refine ⟨m2.1, ?_⟩
                    have hb2 := m2.1
                    refine Order.readsE_any (idx := [7]) (by kernel_rfl) hb2 (fun _ _ _ _ _ h => Order.noPanic_put h) 0 _ _ (by decide +kernel) ?_
                    simp only [Order.pick, List.getElem?_toArray, List.getElem?_cons_zero, List.getElem?_cons_succ]
                    repeat (first
                      | (refine Order.reads_off (by rfl) ?_
                         simp only [Act.put, List.setIfInBounds_toArray, List.set_cons_zero, List.set_cons_succ])
                      | (apply Order.reads_on
                         · rfl
                         · intro x hx
                           first
                             | (go_simp; rfl)
                             | (fail
                                go_simp; rfl)
                         simp only [Act.put, List.setIfInBounds_toArray, List.set_cons_zero, List.set_cons_succ]))
                    refine Order.reads_end ?_
                    refine Order.doneE (by decide +kernel) ?_ _
                    refine NoPanic.normal ?_
                    have HM2 := Lib.hid m2
                    clear m2 hb2
                    go_wp2_with fail
                    go_meet
                    case rel => exact HM2.out
                · simp only [List.getElem_toArray, List.getElem_cons_succ, List.getElem_cons_zero]
                  refine Order.wp_lit1 rfl rfl (one_recs _ _ _ _) ?_
                  have hal : Below y.heap.size y (y.drew.alloc (.cells #[.slice ob bb.length cb] tBs)) := HB0.out.alloc HB0.out.size _
                  have hblk := heap_alloc_new y.drew (.cells #[.slice ob bb.length cb] tBs)
                  refine ⟨hal, ?_⟩
                  apply Order.actE (i := 0)
                  · rfl
                  · decide +kernel
                  · rfl
                  simp only [List.getElem_toArray, List.getElem_cons_zero]
                  refine Order.wp_lit0 rfl (Sp.empty_recs _) ?_
                  have m0 := moreP_empty (P := PP) hal
                  have hblk2 := (((Below.refl (y.drew.alloc (.cells #[.slice ob bb.length cb] tBs)).heap.size (y.drew.alloc (.cells #[.slice ob bb.length cb] tBs))).alloc (Nat.le_refl _) (.cells #[] tBs)).block _ (Array.getElem?_eq_some_iff.1 hblk).1).trans hblk
                  refine ⟨m0.1, ?_⟩
                  apply Order.actE (i := 2)
                  · rfl
                  · decide +kernel
                  · rfl
                  simp only [List.getElem_toArray, List.getElem_cons_succ, List.getElem_cons_zero]
                  refine op_more (v := .slice (some ⟨(y.drew.alloc (.cells #[.slice ob bb.length cb] tBs)).heap.size, 0, none⟩) 0 0) _ _ rfl rfl rfl HP.out.1 m0 (HP.out.2.1.below m0.1) (by rw [List.length_nil]; exact HP.out.2.2.2.2) ?_
                  intro v' x3 m1 ht
                  have hce : x3.cell? ⟨y.drew.heap.size, 0, none⟩ = some (.slice ob bb.length cb) := by
                    rw [Lib.cell_of_heap (ht.heap hblk2 (by simp [Value.ownBlock]))]; rfl
                  refine ⟨m1.1, ?_⟩
                  apply Order.actE (i := 6)
                  · rfl
                  · decide +kernel
                  · rfl
                  simp only [List.getElem_toArray, List.getElem_cons_succ, List.getElem_cons_zero]
                  refine op_more _ _ rfl rfl rfl HP.out.1 m1 (RecsP.one hce HP.out.2.2.1) HP.out.2.2.2.1 ?_
                  rintro v2 x4 m2 -
                  refine ⟨m2.1, ?_⟩
                  have hb2 := m2.1
                  refine Order.readsE_any (idx := [7]) (by kernel_rfl) hb2 (fun _ _ _ _ _ h => Order.noPanic_put h) 0 _ _ (by decide +kernel) ?_
                  simp only [Order.pick, List.getElem?_toArray, List.getElem?_cons_zero, List.getElem?_cons_succ]
                  repeat (first
                    | (refine Order.reads_off (by rfl) ?_
                       simp only [Act.put, List.setIfInBounds_toArray, List.set_cons_zero, List.set_cons_succ])
                    | (apply Order.reads_on
                       · rfl
                       · intro x hx
                         first
                           | (go_simp; rfl)
                           | (fail
                              go_simp; rfl)
                       simp only [Act.put, List.setIfInBounds_toArray, List.set_cons_zero, List.set_cons_succ]))
                  refine Order.reads_end ?_
                  refine Order.doneE (by decide +kernel) ?_ _
                  refine NoPanic.normal ?_
                  have HM2 := Lib.hid m2
                  clear m2 hb2
                  go_wp2_with fail
                  go_meet
                  case rel => exact HM2.out
              case rest =>
                clear y2
                have hbc := hcut.out.1
                have HKw := Lib.hid (HKn.out.on hbc)
                have HRw := Lib.hid (HMr.out _ _ _ hcut.out)
                have HRo := Lib.hid (fun (k : Nat) (hk : u12.ownBlock = some k) => hcut.out.row hk)
                clear hbc hcut HMr HP HY
                rcases hcs with e | ⟨e, hf2, hs3⟩ | ⟨e, hrd⟩
                · have hkw := HKw.out
                  rw [e] at hkw ⊢
                  have HK2 := Lib.hid (show KA w wc p' h q (j + 1) H F2 u10 a f img r from ⟨hkw, HKa.out.fm, HKa.out.more.na, HKa.out.more.ne, HKa.out.more.nt, HKa.out.more.nr⟩)
                  clear hkw e hcc HKa HRw HRo
                  go_wp2_with fail
                  go_roundw
                  case rel => exact ⟨j + 1, p', by omega, rfl, by go_num, .inl ⟨h, q, H, F2, a, f, img, r, rfl, rfl, rfl, rfl, HK2.out⟩⟩
                  case measure => simp [intOf]; omega
                · rw [e]
                  have HK2 := Lib.hid (show KA w wc p' h q (j + 1) (hkeep H bb).1 F2 u12 a f img (r ++ [(bb, H.s.epoch)]) from ⟨⟨HKw.out.hs, by rw [List.map_append]; exact HRw.out, fun k hk => by
                    have h1 := HRo.out k hk
                    have h2 := HKn.out.lt k
                    exact ⟨fun e => by have := h2 (.inl e); omega, fun e => by have := h2 (.inr (.inl e)); omega, fun e => by have := h2 (.inr (.inr e)); omega⟩⟩, hf2, HKa.out.more.na, by rw [hs3]; exact HKa.out.more.ne, by rw [hs3]; show H.s.tail + parts bb.length ≤ _; have := HKa.out.nt; have := HA0.out.2.1; omega, by rw [List.length_append]; have := HKa.out.nr; simp only [List.length_singleton]; omega⟩)
                  generalize (hkeep H bb).1 = H3 at *
                  generalize r ++ [(bb, H.s.epoch)] = r3 at *
                  clear hf2 hs3 e hcc HKa HRw HRo HKw HKn
                  go_wp2_with fail
                  go_roundw
                  case rel => exact ⟨j + 1, p', by omega, rfl, by go_num, .inl ⟨h, q, H3, F2, a, f, img, r3, rfl, rfl, rfl, rfl, HK2.out⟩⟩
                  case measure => simp [intOf]; omega
                · rw [e]
                  have HK2 := Lib.hid (show KQ w wc p' (j + 1) (hkeep H bb).1.t F2 true u10 u12 img (r.map Prod.fst) img (r.map Prod.fst ++ [bb]) from ⟨HKw.out.hs.sys.below, HKw.out.hs.sys.tray, HKw.out.hs.sys.new, by have := HA0.out; omega, HKw.out.rows.is, fun _ => HRw.out.is, fun ch => by
                    have h1 := HKa.out.na
                    have h2 := HKa.out.ne
                    have h3 := HKa.out.nt
                    have h4 := HKa.out.nr
                    have h6 := HA0.out.2.1
                    rcases hrd ch (by omega) (fun k => lose_len HKw.out.hs.sys.tray ch _) with h5 | h5
                    · exact ⟨a, H.s.epoch, f, H.s.head, H.s.tail, img, r, by omega, by omega, by omega, by omega, h5, .inl ⟨rfl, rfl⟩⟩
                    · exact ⟨a, H.s.epoch, f, H.s.head, H.s.tail + parts bb.length, img, r ++ [(bb, H.s.epoch)], by omega, by omega, by omega, by rw [List.length_append]; simp only [List.length_singleton]; omega, h5, .inr ⟨rfl, rfl, by rw [List.map_append]; rfl⟩⟩⟩)
                  generalize (hkeep H bb).1.t = U at *
                  clear hrd e hcc HKa HRw HRo HKw HKn
                  go_wp2_with fail
                  go_roundw
                  case rel => exact ⟨j + 1, p', by omega, rfl, by go_num, .inr ⟨U, F2, img, r.map Prod.fst, img, r.map Prod.fst ++ [bb], rfl, rfl, rfl, HK2.out⟩⟩
                  case measure => simp [intOf]; omega
            · have HK2 := Lib.hid (HX2.out.kst.more)
              have ek2 : (kd == 2) = false := by simp [hk1]
              have ek3 : (kd == 3) = false := by simp [hk1]
              have ek4 : (kd == 4) = false := by simp [hk1]
              clear hkq hk1
              go_wp2_with fail
              go_roundw
              case rel => exact ⟨j + 1, p', by omega, rfl, by go_num, HK2.out⟩
              case measure => simp [intOf]; omega
          · have ek1 : (kd == 1) = false := by simp [hk1]
            by_cases hk2 : kd = 2
            · have ek2 : (kd == 2) = true := by simp [hk2]
              rcases HX2.out with ⟨h, q, H, F, a, f, img, r, rfl, rfl, rfl, rfl, hka, hlow⟩ | ⟨u, F, i1, L1, i2, L2, rfl, rfl, rfl, hkq⟩
              · have HKa := Lib.hid hka
                have HS := Lib.hid (hka.hk.hs.image (.slice ob bb.length cb) bb (in_stay HA.out.2.1 hka.hk.hs.sys.below hka.hk.hs.sys.new) (by have := HA.out.2.2.2.1; omega) (by rw [hka.fm.live.cache]; exact Nat.zero_le _) (by rw [hka.fm.ms]; show a + 1 < _; have := hka.na; omega) (by have := hka.nt; omega))
                have hA : ¬ (F A ∨ A = q ∨ A = h) := fun hk => by have := hlow A hk; omega
                have hcs := hka.fm.image (b := bb) (by have := hka.nt; omega) (by have := hka.na; omega)
                clear hk1 hk2 hka hlow HX2
                go_wp2_with fail
                refine HS.out.mono ?_
                rintro e y ⟨rfl, F2, hs2, hF2, hty⟩
                have hkn := HKa.out.hk.next hs2 hF2 hty
                have hbA := hty.heap HA.out.1 hA
                have y2 : y.cell? ⟨A, 2, none⟩ = some (.slice ob bb.length cb) := by rw [Lib.cell_of_heap hbA]; rfl
                have hbc := bytes_str (HA.out.2.1.below hkn.hs.sys.below)
                have hcc := himage_cache (n := 80) (H := H) (b := bb)
                have HA0 := Lib.hid (show H.t.cache.length = 0 ∧ takes bb ≤ 24 from ⟨by rw [HKa.out.fm.live.cache]; rfl, by have := HA.out.2.2.2.1; unfold takes; omega⟩)
                clear q0 q1 q2 q3 HS hs2 hF2 hty hbA hA
                rcases hcs with e | ⟨e, hf2, hs3⟩ | ⟨e, hrd⟩
                · rw [e] at hkn ⊢
                  have HK2 := Lib.hid (show KA w y p' h q (j + 1) H F2 u10 a f img r from ⟨hkn, HKa.out.fm, HKa.out.more.na, HKa.out.more.ne, HKa.out.more.nt, HKa.out.more.nr⟩)
                  clear hkn e hcc HKa
                  go_wp2_with fail
                  go_roundw
                  case rel => exact ⟨j + 1, p', by omega, rfl, by go_num, .inl ⟨h, q, H, F2, a, f, img, r, rfl, rfl, rfl, rfl, HK2.out⟩⟩
                  case measure => simp [intOf]; omega
                · rw [e]
                  have HK2 := Lib.hid (show KA w y p' h q (j + 1) (himage 80 H bb).1 F2 (.slice none 0 0) (a + 1) (1 - f) bb [] from ⟨Hk.none hkn.hs, hf2, by have := HKa.out.na; omega, by rw [hs3]; exact HKa.out.more.ne, by rw [hs3]; exact HKa.out.more.nt, Nat.zero_le _⟩)
                  generalize (himage 80 H bb).1 = H3 at *
                  clear hkn hf2 hs3 e hcc HKa
                  go_wp2_with fail
                  go_roundw
                  case rel => exact ⟨j + 1, p', by omega, rfl, by go_num, .inl ⟨h, q, H3, F2, a + 1, 1 - f, bb, [], rfl, rfl, rfl, rfl, HK2.out⟩⟩
                  case measure => simp [intOf]; omega
                · rw [e]
                  have HK2 := Lib.hid (show KQ w y p' (j + 1) (himage 80 H bb).1.t F2 true u10 (.slice none 0 0) img (r.map Prod.fst) bb [] from ⟨hkn.hs.sys.below, hkn.hs.sys.tray, hkn.hs.sys.new, by have := HA0.out; omega, hkn.rows.is, fun _ => nil_recs _, fun ch => by
                    have h1 := HKa.out.na
                    have h2 := HKa.out.ne
                    have h3 := HKa.out.nt
                    have h4 := HKa.out.nr
                    rcases hrd ch (by omega) with h5 | h5
                    · exact ⟨a, H.s.epoch, f, H.s.head, H.s.tail, img, r, by omega, by omega, by omega, by omega, h5, .inl ⟨rfl, rfl⟩⟩
                    · exact ⟨a + 1, H.s.epoch, 1 - f, H.s.tail, H.s.tail, bb, [], by omega, by omega, by omega, Nat.zero_le _, h5, .inr ⟨rfl, rfl, rfl⟩⟩⟩)
                  generalize (himage 80 H bb).1.t = U at *
                  clear hkn hrd e hcc HKa
                  go_wp2_with fail
                  go_roundw
                  case rel => exact ⟨j + 1, p', by omega, rfl, by go_num, .inr ⟨U, F2, img, r.map Prod.fst, bb, [], rfl, rfl, rfl, HK2.out⟩⟩
                  case measure => simp [intOf]; omega
              · have HK2 := Lib.hid (HX2.out.kst.more)
                have ek3 : (kd == 3) = false := by simp [hk2]
                have ek4 : (kd == 4) = false := by simp [hk2]
                clear hkq hk1 hk2
                go_wp2_with fail
                go_roundw
                case rel => exact ⟨j + 1, p', by omega, rfl, by go_num, HK2.out⟩
                case measure => simp [intOf]; omega
            · have ek2 : (kd == 2) = false := by simp [hk2]
              by_cases hk3 : kd = 3
              · have ek3 : (kd == 3) = true := by simp [hk3]
                rcases HX2.out with ⟨h, q, H, F, a, f, img, r, rfl, rfl, rfl, rfl, hka, hlow⟩ | ⟨u, F, i1, L1, i2, L2, rfl, rfl, rfl, hkq⟩
                · have HKa := Lib.hid hka
                  clear hk1 hk2 hk3 hka hlow HX2
                  go_wp2_with fail
                  obtain ⟨k, hk, hkr⟩ : ∃ k : Int, wrap64 ((IntKind.u64.wrap at_).tmod 300) = k ∧ 0 ≤ k ∧ k ≤ 299 := ⟨_, rfl, pow_k at_⟩
                  rw [hk]
                  have HS := HKa.out.hk.hs.pow k ⟨hkr.1, by omega⟩
                  clear hk hkr
                  refine HS.mono ?_
                  rintro e y ⟨rfl, hs2, hty⟩
                  have HK2 := Lib.hid (show Kst w y p' (j + 1) (ptr h) (.string (Ta.str img)) u10 (.string (Ta.str img)) u12 (.bool false) from .inl ⟨h, q, _, F, a, f, img, r, rfl, rfl, rfl, rfl, HKa.out.hk.next hs2 (fun k hk => .inl hk) hty, HKa.out.fm.power k, HKa.out.more.na, HKa.out.more.ne, HKa.out.more.nt, HKa.out.more.nr⟩)
                  clear hs2 hty HS
                  go_wp2_with fail
                  go_roundw
                  case rel => exact ⟨j + 1, p', by omega, rfl, by go_num, HK2.out⟩
                  case measure => simp [intOf]; omega
                · have HK2 := Lib.hid (HX2.out.kst.more)
                  clear hkq hk1 hk2 hk3
                  go_wp2_with fail
                  go_roundw
                  case rel => exact ⟨j + 1, p', by omega, rfl, by go_num, HK2.out⟩
                  case measure => simp [intOf]; omega
              · have ek3 : (kd == 3) = false := by simp [hk3]
                by_cases hk4 : kd = 4
                · have ek4 : (kd == 4) = true := by simp [hk4]
                  have HTy := Lib.hid (HX2.out.kst.all (by omega))
                  clear hk1 hk2 hk3 hk4 HX2
                  obtain ⟨u, F, d, i1, L1, i2, L2, rfl, rfl, rfl, hkq⟩ := HTy.out
                  have HQ := Lib.hid hkq
                  have HLs := Lib.hid (Ta.lose_any hkq.is (.slice oc fc.length cc) fc (HA.out.2.2.1.below hkq.bl) (by have := hkq.few; omega))
                  clear hkq HTy
                  go_wp2_with fail
                  refine HLs.out.mono ?_
                  rintro e z ⟨p2, rfl, -, hbz, hiz⟩
                  obtain ⟨a, e, f, hd, tail, img, r, ha, he, ht, hr, hrd, hor⟩ := HQ.out.due fc
                  have hxz := hbz.size
                  have hwx := HQ.out.bl.size
                  have HO := Lib.hid (opened_any (HQ.out.bl.trans (hbz.mono HQ.out.bl.size)) hiz (fun k hk => by have := hk.1; omega) hrd (by omega) rfl)
                  have HZ := Lib.hid (And.intro hbz (show a ≤ j + 1 ∧ e ≤ j + 1 ∧ tail ≤ 1000 * j ∧ r.length ≤ j from ⟨ha, he, ht, hr⟩))
                  have HOr := Lib.hid hor
                  clear hbz hiz hrd ha he ht hr hor HLs q0 q1 q2 q3
                  go_wp2_with fail
                  refine HO.out.mono ?_
                  rintro ee y ⟨q7, h7, F7, G7, iv, rv, rfl, hs7, hf7, -, hse, ht7, hF7, -, -, hiv, hst, hrc, hG7, hrow⟩
                  have hzy : Below X.heap.size X y := HZ.out.1.trans (ht7.below hxz fun k hk => hk.1)
                  have hk7 : Hk w y h7 p2 q7 (hopen 80 (u.lose fc)) F7 rv (r.map Prod.fst) := ⟨hs7, recs_less (Sp.Recs.base hrc (by omega)) hG7, hrow⟩
                  have HK7 := Lib.hid (show KA w y p2 h7 q7 (j + 1) (hopen 80 (u.lose fc)) F7 rv (a + 1) f img r from ⟨hk7, hf7, by have := HZ.out.2.1; omega, by rw [hse]; have := HZ.out.2.2.1; show e + 1 ≤ _; omega, by rw [hse]; have := HZ.out.2.2.2.1; show tail ≤ _; omega, by have := HZ.out.2.2.2.2; omega⟩)
                  have HIs := Lib.hid (show IsRecs y rv (r.map Prod.fst) ∧ IsRecs y u10 L1 ∧ (d = true → IsRecs y u12 L2) from ⟨hrc.is, HQ.out.r1.below hzy, fun e => (HQ.out.r2 e).below hzy⟩)
                  have hib := hst.now
                  obtain ⟨ia7, im7, ic7, rfl⟩ := hiv
                  have hcs := fun y' (hy : Below y.heap.size y y') => bytes_str (Ta.IsBytes.below hib hy)
                  have HC7 := Lib.hid hcs
                  have hcs0 := bytes_str hib
                  have hn1 : ((Ta.str img).toList != (Ta.str i1).toList) = !decide (img = i1) := by rw [bne, str_inj]
                  have hn2 : ((Ta.str img).toList != (Ta.str i2).toList) = !decide (img = i2) := by rw [bne, str_inj]
                  have HNe := Lib.hid (And.intro hn1 hn2)
                  clear hs7 hf7 hse ht7 hF7 hst hrc hG7 hrow hzy hk7 hib hcs HO hn1 hn2
                  go_upto_region 31 with fail
                  go_cut [169] from 144 to 169 (fun v wx => v = .bool false ∧ Hid (Below y.heap.size y wx))
                  case first =>
                    by_cases him : img = i1
                    · have hne : ((Ta.str img).toList != (Ta.str i1).toList) = false := by rw [HNe.out.1, decide_eq_true him]; rfl
                      have hnq : ((Ta.str img).toList == (Ta.str i1).toList) = true := by rw [str_inj, decide_eq_true him]
                      by_cases hls : r.map Prod.fst = L1
                      · have HS1 := Lib.hid (same_any rv u10 _ _ HIs.out.1 HIs.out.2.1)
                        rw [decide_eq_true hls] at HS1
                        clear him hls
                        generalize Ta.str img = SA at *
                        generalize Ta.str i1 = SB at *
                        generalize Ta.str i2 = SC at *
                        go_wp2_with fail
                        refine HS1.out.mono ?_
                        rintro e y3 ⟨rfl, hb3⟩
                        have HB3 := Lib.hid hb3
                        clear hb3
                        go_wp2_with fail
                        go_meet
                        case rel => exact ⟨rfl, HB3.out⟩
                      · have HO2 := Lib.hid (show d = true ∧ img = i2 ∧ r.map Prod.fst = L2 from HOr.out.resolve_left fun h => hls h.2)
                        have HS1 := Lib.hid (same_any rv u10 _ _ HIs.out.1 HIs.out.2.1)
                        rw [decide_eq_false hls] at HS1
                        have hd := HO2.out.1
                        have HS2 := Lib.hid (fun (y' : World) (hy : Below y.heap.size y y') => same_any rv u12 _ _ (HIs.out.1.below hy) ((HIs.out.2.2 HO2.out.1).below hy))
                        rw [decide_eq_true HO2.out.2.2] at HS2
                        have hi2 := HO2.out.2.1
                        clear hls hne hnq HO2 HNe HOr
                        subst hd
                        subst him
                        subst hi2
                        have hne : ((Ta.str img).toList != (Ta.str img).toList) = false := by rw [bne, str_inj, decide_eq_true rfl]; rfl
                        generalize Ta.str img = SA at *
                        go_wp2_with fail
                        refine HS1.out.mono ?_
                        rintro e y3 ⟨rfl, hb3⟩
                        have hcs3 := HC7.out y3 hb3
                        have HS3 := Lib.hid (HS2.out y3 hb3)
                        have HB3 := Lib.hid hb3
                        clear hb3 HS2
                        go_wp2_with fail
                        refine HS3.out.mono ?_
                        rintro e y4 ⟨rfl, hb4⟩
                        have HB4 := Lib.hid (HB3.out.trans (hb4.mono HB3.out.size))
                        clear hb4
                        go_wp2_with fail
                        go_meet
                        case rel => exact ⟨rfl, HB4.out⟩
                    · have hne : ((Ta.str img).toList != (Ta.str i1).toList) = true := by rw [HNe.out.1, decide_eq_false him]; rfl
                      have hnq : ((Ta.str img).toList == (Ta.str i1).toList) = false := by rw [str_inj, decide_eq_false him]
                      have HO2 := Lib.hid (show d = true ∧ img = i2 ∧ r.map Prod.fst = L2 from HOr.out.resolve_left fun h => him h.1)
                      have hne2 : ((Ta.str img).toList != (Ta.str i2).toList) = false := by rw [HNe.out.2, decide_eq_true HO2.out.2.1]; rfl
                      have hnq2 : ((Ta.str img).toList == (Ta.str i2).toList) = true := by rw [str_inj, decide_eq_true HO2.out.2.1]
                      have hd := HO2.out.1
                      have HS2 := Lib.hid (same_any rv u12 _ _ HIs.out.1 (HIs.out.2.2 HO2.out.1))
                      rw [decide_eq_true HO2.out.2.2] at HS2
                      clear him
                      subst hd
                      generalize Ta.str img = SA at *
                      generalize Ta.str i1 = SB at *
                      generalize Ta.str i2 = SC at *
                      go_wp2_with fail
                      refine HS2.out.mono ?_
                      rintro e y4 ⟨rfl, hb4⟩
                      have HB4 := Lib.hid hb4
                      clear hb4
                      go_wp2_with fail
                      go_meet
                      case rel => exact ⟨rfl, HB4.out⟩
                  case rest =>
                    obtain ⟨rfl, hcw⟩ := hcut
                    have HKw := Lib.hid (HK7.out.on hcw.out)
                    have hcsw := fun m => HC7.out _ (below_drewN hcw.out m)
                    clear hcw HNe
                    go_wp2_with fail
                    go_quiet (fail)
                    go_wp2_with fail
                    go_roundw
                    case rel => exact ⟨j + 1, p2, by omega, rfl, by go_num, .inl ⟨h7, q7, _, F7, a + 1, f, img, r, rfl, rfl, rfl, rfl, HKw.out.on (below_drewN (Below.refl _ _) _)⟩⟩
                    case measure => simp [intOf]; omega
                · have ek4 : (kd == 4) = false := by simp [hk4]
                  have HK2 := Lib.hid (HX2.out.kst.more)
                  clear hk1 hk2 hk3 hk4
                  go_wp2_with fail
                  go_roundw
                  case rel => exact ⟨j + 1, p', by omega, rfl, by go_num, HK2.out⟩
                  case measure => simp [intOf]; omega
        · have hnl : ¬ (j : Int) < (l.length : Int) := by omega
          have HE := Lib.hid HX.out.below
          clear hlt
          go_wp2_with fail
          go_ret
          exact ⟨rfl, HE.out⟩
  · have hdf : decide (Few l) = false := decide_eq_false hfew
    rw [hdf]
    clear hfew hdf
    go_wp2_with fail
    refine (awake_any x3).mono ?_
    rintro e x4 ⟨rfl, hb⟩
    have H4 := Lib.hid (H3.out.1.trans (hb.mono H3.out.1.size))
    clear hb
    go_wp2_with fail
    go_ret
    exact ⟨rfl, H4.out⟩
end LawH14K
end Ho
end Go.Proofs.Ytkfmmdiflbnhgaa
