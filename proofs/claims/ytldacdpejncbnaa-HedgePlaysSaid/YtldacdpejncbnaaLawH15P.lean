/-
  HedgePlays, walked: for every list of acts and every number it answers true.
-/
import Derived.Test.YtldacdpejncbnaaHgPlay
import Derived.Test.YtldacdpejncbnaaOrd3
import Derived.Deep.DeepCutAuto
import Derived.Deep.CutBlock
namespace Go.Proofs.Ytldacdpejncbnaa
open Go.RowKit
namespace Hg.LawH15P
open Knot (Turns NewRow)
open Tr (own_below own_slice)

set_option maxHeartbeats 16000000 in
set_option maxRecDepth 100000 in
theorem walk (l : List Act) (v : Value) (n : Int) (w : World) (hl : IsActs w v l) (_hn : (Lit.int .i64 n).wf = true) :
    Calls Try.prog 3 #[v, .int .i64 n] w fun e x => e = .returned (.bool true) ∧ Below w.heap.size w x := by
  obtain ⟨vo, vcap, rfl, hlx⟩ := id hl
  have HL := Lib.hid hl
  have HA := Lib.hid (fun w => awake_any w)
  clear hl hlx
  by_cases hn : l.length ≤ 100
  · go_enter Try.func3, Try.ntmps3
    go_wp2_with fail
    refine (new_al w).mono ?_
    rintro e x0 ⟨rfl, hA, hb0⟩
    obtain ⟨p, hp⟩ : ∃ p, p = w.heap.size := ⟨_, rfl⟩
    rw [← hp] at hA ⊢
    have HB0 := Lib.hid (And.intro hA (And.intro hb0 hp))
    clear hA hb0 hp
    go_wp2_with fail
    refine (HA.out x0).mono ?_
    rintro e x1 ⟨rfl, hb1⟩
    have hbb := HB0.out.2.1.trans (hb1.mono HB0.out.2.1.size)
    have HB1 := Lib.hid (And.intro (HB0.out.1.on hb1) (And.intro hbb HB0.out.2.2))
    clear hb1 hbb HB0
    go_wp2_with fail
    go_loopw [31, 6] (fun i mv wr => ∃ (j : Nat) (t : T), j ≤ l.length ∧ i = .int .i64 (j : Int) ∧ Hid (Pl p p wr t mv ∧ t.ents.length ≤ j ∧ Below w.heap.size w wr)) (fun i _ _ => l.length - (intOf i).toNat)
    case atStart => exact ⟨0, .nil, Nat.zero_le _, rfl, ⟨HB1.out.1, nil_ro _ _, fun e h => by cases h⟩, Nat.le_refl _, HB1.out.2.1⟩
    case round =>
      obtain ⟨j, t, hj, rfl, HS⟩ := hrel
      obtain ⟨mo, mc, rfl⟩ := HS.out.1.row.slice
      by_cases hlt : j < l.length
      · obtain ⟨b, o, cap, he, hix, q0, q1, q2⟩ := (HL.out.on HS.out.2.2).at hlt
        obtain ⟨hg1, -, hg2⟩ := Value.slice.inj he
        subst hg1
        subst hg2
        obtain ⟨ac, hac⟩ : ∃ a, a = l[j] := ⟨_, rfl⟩
        rw [← hac] at q0 q1 q2
        clear hac
        obtain ⟨kd, an, ky⟩ := ac
        simp only at q0 q1 q2
        have hnew := heap_alloc_new wr (.cells #[.int .i64 kd, .int .i64 an, .string ky] tAc)
        have hba : Below wr.heap.size wr (wr.alloc (.cells #[.int .i64 kd, .int .i64 an, .string ky] tAc)) := (Below.refl _ _).alloc (Nat.le_refl _) _
        obtain ⟨X, hX⟩ : ∃ X, X = wr.alloc (.cells #[.int .i64 kd, .int .i64 an, .string ky] tAc) := ⟨_, rfl⟩
        obtain ⟨A, hAw⟩ : ∃ A, A = wr.heap.size := ⟨_, rfl⟩
        rw [← hX] at hnew hba
        rw [← hAw] at hnew
        have hB : AcB X A ⟨kd, an, ky⟩ := hnew
        have HX := Lib.hid (And.intro (HS.out.1.on hba) (And.intro hB (And.intro (HS.out.2.2.trans (hba.mono HS.out.2.2.size)) HS.out.2.1)))
        have HW := Lib.hid (And.intro hX hAw)
        clear hX hAw hnew hba hB HS
        go_upto_region 8 with fail
        rw [← HW.out.1, ← HW.out.2]
        obtain ⟨c0, c1, c2⟩ := HX.out.2.1.cells
        simp only at c0 c1 c2
        clear HW q0 q1 q2
        by_cases hky : ky.size ≤ 200
        · have hdg := dget_any HX.out.1.row ky (by have := HX.out.2.2.2; omega)
          have hpg := get_row HX.out.1.al.h ky
          obtain ⟨gt, hgt⟩ : ∃ g, g = get t.ents ky := ⟨_, rfl⟩
          rw [← hgt] at hdg hpg
          have HDG := Lib.hid hdg
          have HPG := Lib.hid hpg
          have HGt := Lib.hid hgt
          clear hdg hpg hgt
          go_wp2_with fail
          refine HDG.out.mono ?_
          rintro e _ ⟨rfl, hx⟩
          rw [hx]
          clear hx
          go_wp2_with fail
          refine HPG.out.mono ?_
          rintro e _ ⟨rfl, hx⟩
          rw [hx]
          clear hx HDG HPG
          have hcode : ∀ g : Option Int, g = gt → ∃ th gv ec, th = g.isSome ∧ gv = g.getD 0 ∧ ec = (if g.isSome = true then (0 : Int) else 19) := fun g _ => ⟨_, _, _, rfl, rfl, rfl⟩
          obtain ⟨th, gv, ec, h1, h2, h3⟩ := hcode gt rfl
          rw [← h3]
          rw [← h1, ← h2]
          have HC := Lib.hid (show (th = true ∧ ec = 0 ∧ gt.isSome = true) ∨ (th = false ∧ ec = 19 ∧ gt.isSome = false) from by
            rw [h1, h3]
            cases gt
            · exact .inr ⟨rfl, rfl, rfl⟩
            · exact .inl ⟨rfl, rfl, rfl⟩)
          clear h1 h2 h3 hcode
          go_upto_region 11 with fail
          go_cut [69] (fun v wx => v = .bool false ∧ wx = X)
          case first =>
            rcases HC.out with ⟨rfl, rfl, -⟩ | ⟨rfl, rfl, -⟩
            · go_wp2_with fail
              go_meet
              case rel => exact ⟨rfl, rfl⟩
            · go_wp2_with fail
              go_meet
              case rel => exact ⟨rfl, rfl⟩
          case rest =>
            obtain ⟨rfl, hwx⟩ := hcut
            rw [hwx]
            clear hwx
            go_upto_block 2 with fail
            go_cut [6] (fun s6 wx => ∃ (t' : T) (oa : Option Addr) (oc : Nat), s6 = .slice oa t'.ents.length oc ∧ Hid (Pl p p wx t' (.slice oa t'.ents.length oc) ∧ t'.ents.length ≤ j + 1 ∧ Below w.heap.size w wx ∧ AcB wx A ⟨kd, an, ky⟩))
            case first =>
              by_cases hk1 : kd = 1
              · have ek1 : (kd == 1) = true := by rw [beq_iff_eq]; exact hk1
                clear hk1
                have hP := put_row HX.out.1.al.h ky an (by unfold keyMax; omega) (by rw [← T.ents_len]; have := HX.out.2.2.2; omega)
                have HL2 := Lib.hid (show (put t.ents ky an).length ≤ j + 1 from by have h1 := put_more HX.out.1.al.h.rises ky an; have h2 := HX.out.2.2.2; omega)
                have HP := Lib.hid hP
                clear hP
                rcases HC.out with ⟨rfl, rfl, hgs⟩ | ⟨rfl, rfl, hgs⟩
                all_goals
                  rw [HGt.out] at hgs
                  rw [show (get t.ents ky).isNone = !(get t.ents ky).isSome from by cases get t.ents ky <;> rfl, hgs] at HP
                  simp only [Bool.not_true, Bool.not_false] at HP
                  clear hgs
                  go_wp2_with fail
                  refine HP.out.mono ?_
                  rintro e y ⟨rfl, hb⟩
                  have hpw : p ≤ X.heap.size := by have := HX.out.2.2.1.size; have := HB1.out.2.2; omega
                  obtain ⟨⟨t', h1, h2⟩, hbb, h3, h4⟩ := HX.out.1.became hpw hb
                  have hAc := h4 A _ HX.out.2.1
                  have HD := Lib.hid (dput_any h3 ky an HX.out.1.al.h.rises HX.out.1.short (by omega) (by have := HX.out.2.2.2; omega))
                  have hby := HX.out.2.2.1.trans (by rw [← HB1.out.2.2]; exact hbb)
                  obtain ⟨e0, e1, e2⟩ := hAc.cells
                  simp only at e0 e1 e2
                  have HY := Lib.hid (And.intro h1 (And.intro h2 (And.intro hby hAc)))
                  clear hb hpw h1 h2 hbb h3 h4 hAc hby c0 c1 c2 HP
                  go_wp2_with fail
                  refine HD.out.mono ?_
                  rintro e z ⟨ov, rfl, hM⟩
                  have hro : Ro tDe z ov t'.ents := by rw [HY.out.2.1]; exact own_base hM.own (Nat.zero_le _)
                  have hpl : Pl p p z t' ov := ⟨HY.out.1.on hM.below, hro, by rw [HY.out.2.1]; exact short_put HX.out.1.short an (by omega)⟩
                  obtain ⟨oa, oc, rfl⟩ := hro.slice
                  have HN := Lib.hid (And.intro hpl (And.intro (show t'.ents.length ≤ j + 1 by rw [HY.out.2.1]; exact HL2.out) (And.intro (HY.out.2.2.1.trans (hM.below.mono HY.out.2.2.1.size)) (HY.out.2.2.2.on hM.below))))
                  clear hM hro hpl e0 e1 e2
                  go_wp2_with fail
                  go_meet
                  case rel => exact ⟨t', oa, oc, rfl, HN.out⟩
              · have ek1 : (kd == 1) = false := by rw [beq_eq_false_iff_ne]; exact hk1
                clear hk1
                by_cases hk2 : kd = 2
                · have ek2 : (kd == 2) = true := by rw [beq_iff_eq]; exact hk2
                  clear hk2
                  have hP := drop_row HX.out.1.al.h ky
                  have HL2 := Lib.hid (show (drop t.ents ky).length ≤ j + 1 from by have h1 := Nat.le_trans (drop_len t.ents ky) (Nat.le_succ _); have h2 := HX.out.2.2.2; omega)
                  have HP := Lib.hid hP
                  clear hP
                  rcases HC.out with ⟨rfl, rfl, hgs⟩ | ⟨rfl, rfl, hgs⟩
                  all_goals
                    rw [HGt.out] at hgs
                    rw [hgs] at HP
                    simp only [if_true, Bool.false_eq_true, if_false] at HP
                    clear hgs
                    go_wp2_with fail
                    refine HP.out.mono ?_
                    rintro e y ⟨rfl, hb⟩
                    have hpw : p ≤ X.heap.size := by have := HX.out.2.2.1.size; have := HB1.out.2.2; omega
                    obtain ⟨⟨t', h1, h2⟩, hbb, h3, h4⟩ := HX.out.1.became hpw hb
                    have hAc := h4 A _ HX.out.2.1
                    have HD := Lib.hid (ddrop_any h3 ky HX.out.1.al.h.rises (by have := HX.out.2.2.2; omega))
                    have hby := HX.out.2.2.1.trans (by rw [← HB1.out.2.2]; exact hbb)
                    obtain ⟨e0, e1, e2⟩ := hAc.cells
                    simp only at e0 e1 e2
                    have HY := Lib.hid (And.intro h1 (And.intro h2 (And.intro hby hAc)))
                    clear hb hpw h1 h2 hbb h3 h4 hAc hby c0 c1 c2 HP
                    go_wp2_with fail
                    refine HD.out.mono ?_
                    rintro e z ⟨ov, rfl, hM⟩
                    have hro : Ro tDe z ov t'.ents := by rw [HY.out.2.1]; exact own_base hM.own (Nat.zero_le _)
                    have hpl : Pl p p z t' ov := ⟨HY.out.1.on hM.below, hro, by rw [HY.out.2.1]; exact short_drop HX.out.1.short ky⟩
                    obtain ⟨oa, oc, rfl⟩ := hro.slice
                    have HN := Lib.hid (And.intro hpl (And.intro (show t'.ents.length ≤ j + 1 by rw [HY.out.2.1]; exact HL2.out) (And.intro (HY.out.2.2.1.trans (hM.below.mono HY.out.2.2.1.size)) (HY.out.2.2.2.on hM.below))))
                    clear hM hro hpl e0 e1 e2
                    go_wp2_with fail
                    go_meet
                    case rel => exact ⟨t', oa, oc, rfl, HN.out⟩
                · have ek2 : (kd == 2) = false := by rw [beq_eq_false_iff_ne]; exact hk2
                  clear hk2
                  have HN := Lib.hid (And.intro HX.out.1 (And.intro (show t.ents.length ≤ j + 1 by have := HX.out.2.2.2; omega) (And.intro HX.out.2.2.1 HX.out.2.1)))
                  go_wp2_with fail
                  go_meet
                  case rel => exact ⟨t, mo, mc, rfl, HN.out⟩
            case rest =>
              obtain ⟨t', oa, oc, rfl, HN⟩ := hcut
              rename World => wx
              have hle60 : t'.ents.length ≤ 101 := by have := HN.out.2.1; omega
              have HF := Lib.hid (from_row HN.out.1.al.h ky n)
              obtain ⟨c0, c1, c2⟩ := HN.out.2.2.2.cells
              simp only at c0 c1 c2
              clear HX HGt HC
              go_wp2_with fail
              refine HF.out.mono ?_
              rintro e y ⟨lv, rfl, hlo, hb⟩
              have hsl := own_slice hlo
              obtain ⟨la, lc, rfl⟩ := hsl
              have HLv := Lib.hid (And.intro hlo hb)
              have hPl := HN.out.1.on hb
              have HAc := Lib.hid (HN.out.2.2.2.on hb)
              have HPy := Lib.hid (And.intro hPl (And.intro (HN.out.2.2.1.trans (hb.mono HN.out.2.2.1.size)) hle60))
              clear hlo hb hPl c0 c1 c2 HF
              obtain ⟨m', hm'⟩ : ∃ m, m = t'.ents.length := ⟨_, rfl⟩
              obtain ⟨ln, hln⟩ : ∃ m, m = ((upon t'.ents ky).take n.toNat).length := ⟨_, rfl⟩
              rw [← hm', ← hln]
              have HKy := Lib.hid (show ∀ z, Below y.heap.size y z → z.cell? ⟨A, 2, none⟩ = some (.string ky) from fun z hz => (HAc.out.on hz).cells.2.2)
              have HLen := Lib.hid (show ∀ z, Below y.heap.size y z → Calls Try.prog 16 #[.pointer (some ⟨p, 0, none⟩)] z fun e x => e = .returned (.int .i64 (m' : Nat)) ∧ x = z from fun z hz => by rw [hm']; exact len_row (HPy.out.1.al.on hz).h)
              have HRk := Lib.hid (show ∀ z, Below y.heap.size y z → Calls Try.prog 17 #[.pointer (some ⟨p, 0, none⟩), .string ky] z fun e x => e = .returned (.int .i64 (rank t'.ents ky : Nat)) ∧ x = z from fun z hz => rank_row (HPy.out.1.al.on hz).h ky)
              have HDr := Lib.hid (show ∀ z, Below y.heap.size y z → Calls Try.prog 18 #[.slice oa m' oc, .string ky] z fun e x => e = .returned (.int .i64 (rank t'.ents ky : Nat)) ∧ Below z.heap.size z x from fun z hz => by rw [hm']; exact drank_any (HPy.out.1.row.on hz) ky HPy.out.1.short (by omega) (by have := HPy.out.2.2; omega))
              have HDf := Lib.hid (show ∀ z, Below y.heap.size y z → Calls Try.prog 20 #[.slice oa m' oc, .string ky, .string ByteArray.empty, .int .i64 n] z fun e x => ∃ ov, e = .returned ov ∧ Ro tDe x ov ((upon t'.ents ky).take n.toNat) ∧ Below z.heap.size z x from fun z hz => by
                rw [hm']
                refine (dfrom_any (HPy.out.1.row.on hz) ky ByteArray.empty n HPy.out.1.short (by omega) (by have := HPy.out.2.2; omega)).mono ?_
                rintro e x ⟨ov, rfl, hM⟩
                rw [sel_empty] at hM
                exact ⟨ov, rfl, own_base hM.own (Nat.zero_le _), hM.below⟩)
              have HDu := Lib.hid (show ∀ z, Below y.heap.size y z → Calls Try.prog 20 #[.slice oa m' oc, .string ky, .string ky, .int .i64 n] z fun e x => ∃ ov, e = .returned ov ∧ Ro tDe x ov (((upon t'.ents ky).filter fun e => begins ky e.1).take n.toNat) ∧ Below z.heap.size z x from fun z hz => by
                rw [hm']
                refine (dfrom_any (HPy.out.1.row.on hz) ky ky n HPy.out.1.short (by omega) (by have := HPy.out.2.2; omega)).mono ?_
                rintro e x ⟨ov, rfl, hM⟩
                rw [sel_same] at hM
                exact ⟨ov, rfl, own_base hM.own (Nat.zero_le _), hM.below⟩)
              have HUn := Lib.hid (show ∀ z, Below y.heap.size y z → Calls Try.prog 21 #[.pointer (some ⟨p, 0, none⟩), .string ky, .int .i64 n] z fun e x => ∃ ov, e = .returned ov ∧ Ro tEn x ov (((upon t'.ents ky).filter fun e => begins ky e.1).take n.toNat) ∧ Below z.heap.size z x from fun z hz => by
                refine (under_row (HPy.out.1.al.on hz).h ky n).mono ?_
                rintro e x ⟨ov, rfl, h1, h2⟩
                exact ⟨ov, rfl, own_base h1 (Nat.zero_le _), h2⟩)
              have hup : (upon t'.ents ky).length ≤ t'.ents.length := List.length_filter_le ..
              have HS1 := Lib.hid (show ∀ z vb, Below y.heap.size y z → Ro tDe z vb ((upon t'.ents ky).take n.toNat) → Calls Try.prog 19 #[.slice la ln lc, vb] z fun e x => e = .returned (.bool true) ∧ Below z.heap.size z x from fun z vb hz hvb => by
                rw [hln]
                exact same_any (own_base (own_below HLv.out.1 hz) (Nat.zero_le _)) hvb (by rw [List.length_take]; omega))
              have HS2 := Lib.hid (show ∀ z va vb, Ro tEn z va (((upon t'.ents ky).filter fun e => begins ky e.1).take n.toNat) → Ro tDe z vb (((upon t'.ents ky).filter fun e => begins ky e.1).take n.toNat) → Calls Try.prog 19 #[va, vb] z fun e x => e = .returned (.bool true) ∧ Below z.heap.size z x from fun z va vb h1 h2 => same_any h1 h2 (by
                have h3 : ((upon t'.ents ky).filter fun e => begins ky e.1).length ≤ (upon t'.ents ky).length := List.length_filter_le ..
                rw [List.length_take]
                omega))
              have HLn := Lib.hid (show ln ≤ 101 from by rw [hln, List.length_take]; omega)
              have HHl := Lib.hid hln
              generalize rank t'.ents ky = rk at *
              have HM' := Lib.hid hm'
              clear hm' hln hup hle60
              go_wp2_with fail
              go_cut [156] (fun v wx => v = .bool false ∧ Hid (Below y.heap.size y wx))
              case first =>
                refine Order.beginE (fun z => Below y.heap.size y z) [] (by kernel_rfl) ?_
                refine Order.readsE_any (idx := [0, 2, 3]) (by kernel_rfl) (Below.refl _ _).drew (fun _ _ _ _ _ h => Order.noPanic_put h) 39 _ _ (by decide +kernel) ?_
                simp only [Order.pick, List.getElem?_toArray, List.getElem?_cons_zero, List.getElem?_cons_succ]
                repeat (first
                  | (refine Order.reads_off (by rfl) ?_
                     simp only [Act.put, List.setIfInBounds_toArray, List.set_cons_zero, List.set_cons_succ])
                  | (apply Order.reads_on
                     · rfl
                     · intro x hx
                       first
                         | (go_simp; rfl)
                         | (fail
                            go_simp; rfl)
                     simp only [Act.put, List.setIfInBounds_toArray, List.set_cons_zero, List.set_cons_succ]))
                refine Order.reads_end ?_
                apply Order.actE (i := 1)
                · rfl
                · decide +kernel
                · rfl
                unfold Oper.wp
                go_simp
                have hd : Below y.heap.size y y.drew := (Below.refl _ _).drew
                generalize y.drew = D at *
                refine (HLen.out D hd).mono ?_
                rintro e _ ⟨rfl, hx⟩
                rw [hx]
                clear hx
                refine ⟨hd, ?_⟩
                refine Order.readsE_any (idx := [4, 5, 6, 7, 8, 10, 11, 12]) (by kernel_rfl) hd (fun _ _ _ _ _ h => Order.noPanic_put h) 30 _ _ (by decide +kernel) ?_
                simp only [Order.pick, List.getElem?_toArray, List.getElem?_cons_zero, List.getElem?_cons_succ]
                repeat (first
                  | (refine Order.reads_off (by rfl) ?_
                     simp only [Act.put, List.setIfInBounds_toArray, List.set_cons_zero, List.set_cons_succ])
                  | (apply Order.reads_on
                     · rfl
                     · intro x hx
                       first
                         | (have q0 := HKy.out x hx
                            go_simp; rfl)
                     simp only [Act.put, List.setIfInBounds_toArray, List.set_cons_zero, List.set_cons_succ]))
                refine Order.reads_end ?_
                apply Order.actE (i := 9)
                · rfl
                · decide +kernel
                · rfl
                unfold Oper.wp
                go_simp
                refine (HRk.out D hd).mono ?_
                rintro e _ ⟨rfl, hx⟩
                rw [hx]
                clear hx
                refine ⟨hd, ?_⟩
                apply Order.actE (i := 13)
                · rfl
                · decide +kernel
                · rfl
                unfold Oper.wp
                go_simp
                refine (HDr.out D hd).mono ?_
                rintro e y1 ⟨rfl, hb1⟩
                have hy1 := hd.trans (hb1.mono hd.size)
                refine ⟨hy1, ?_⟩
                clear hb1
                refine Order.readsE_any (idx := [14, 15, 16, 17, 18, 19, 20, 21]) (by kernel_rfl) hy1 (fun _ _ _ _ _ h => Order.noPanic_put h) 20 _ _ (by decide +kernel) ?_
                simp only [Order.pick, List.getElem?_toArray, List.getElem?_cons_zero, List.getElem?_cons_succ]
                repeat (first
                  | (refine Order.reads_off (by rfl) ?_
                     simp only [Act.put, List.setIfInBounds_toArray, List.set_cons_zero, List.set_cons_succ])
                  | (apply Order.reads_on
                     · rfl
                     · intro x hx
                       first
                         | (have q0 := HKy.out x hx
                            go_simp; rfl)
                     simp only [Act.put, List.setIfInBounds_toArray, List.set_cons_zero, List.set_cons_succ]))
                refine Order.reads_end ?_
                apply Order.actE (i := 22)
                · rfl
                · decide +kernel
                · rfl
                unfold Oper.wp
                go_simp
                refine (HDf.out y1 hy1).mono ?_
                rintro e y2 ⟨ov, rfl, ho, hb⟩
                have hy2 := hy1.trans (hb.mono hy1.size)
                refine ⟨hy2, ?_⟩
                clear hb
                apply Order.actE (i := 23)
                · rfl
                · decide +kernel
                · rfl
                unfold Oper.wp
                go_simp
                refine (HS1.out y2 _ hy2 ho).mono ?_
                rintro e y3 ⟨rfl, hb⟩
                have hy3 := hy2.trans (hb.mono hy2.size)
                refine ⟨hy3, ?_⟩
                clear hb ho hy2 hy1
                refine Order.readsE_any (idx := [24, 25, 26, 27, 28, 29, 30, 32, 33, 34, 35, 36, 37]) (by kernel_rfl) hy3 (fun _ _ _ _ _ h => Order.noPanic_put h) 5 _ _ (by decide +kernel) ?_
                simp only [Order.pick, List.getElem?_toArray, List.getElem?_cons_zero, List.getElem?_cons_succ]
                repeat (first
                  | (refine Order.reads_off (by rfl) ?_
                     simp only [Act.put, List.setIfInBounds_toArray, List.set_cons_zero, List.set_cons_succ])
                  | (apply Order.reads_on
                     · rfl
                     · intro x hx
                       first
                         | (have q0 := HKy.out x hx
                            go_simp; rfl)
                     simp only [Act.put, List.setIfInBounds_toArray, List.set_cons_zero, List.set_cons_succ]))
                refine Order.reads_end ?_
                apply Order.actE (i := 31)
                · rfl
                · decide +kernel
                · rfl
                unfold Oper.wp
                go_simp
                refine (HUn.out y3 hy3).mono ?_
                rintro e y4 ⟨uv, rfl, h1, hb⟩
                have hy4 := hy3.trans (hb.mono hy3.size)
                refine ⟨hy4, ?_⟩
                clear hb
                apply Order.actE (i := 38)
                · rfl
                · decide +kernel
                · rfl
                unfold Oper.wp
                go_simp
                refine (HDu.out y4 hy4).mono ?_
                rintro e y5 ⟨dv, rfl, h2, hb⟩
                have hy5 := hy4.trans (hb.mono hy4.size)
                refine ⟨hy5, ?_⟩
                have h1' := h1.on hb
                clear hb h1
                apply Order.actE (i := 39)
                · rfl
                · decide +kernel
                · rfl
                unfold Oper.wp
                go_simp
                refine (HS2.out y5 _ _ h1' h2).mono ?_
                rintro e y6 ⟨rfl, hb⟩
                have hy6 := hy5.trans (hb.mono hy5.size)
                refine ⟨hy6, ?_⟩
                clear hb h1' h2 hy5 hy4
                refine Order.readsE_any (idx := [40, 41]) (by kernel_rfl) hy6 (fun _ _ _ _ _ h => Order.noPanic_put h) 0 _ _ (by decide +kernel) ?_
                simp only [Order.pick, List.getElem?_toArray, List.getElem?_cons_zero, List.getElem?_cons_succ]
                repeat (first
                  | (refine Order.reads_off (by rfl) ?_
                     simp only [Act.put, List.setIfInBounds_toArray, List.set_cons_zero, List.set_cons_succ])
                  | (apply Order.reads_on
                     · rfl
                     · intro x hx
                       first
                         | (go_simp; rfl)
                         | (fail
                            go_simp; rfl)
                     simp only [Act.put, List.setIfInBounds_toArray, List.set_cons_zero, List.set_cons_succ]))
                refine Order.reads_end ?_
                refine Order.doneE (by decide +kernel) ?_ _
                refine NoPanic.normal ?_
                go_wp2_with fail
                go_meet
                case rel => exact ⟨rfl, Lib.hid hy6⟩
              case rest =>
                obtain ⟨rfl, HY6⟩ := hcut
                rename World => y6
                have hlo6 := own_below HLv.out.1 HY6.out
                rw [← HHl.out] at hlo6
                have hb6 := HLv.out.2.trans (HY6.out.mono HLv.out.2.size)
                have HR6 := Lib.hid (And.intro hlo6 hb6)
                have hln := HLn.out
                clear hlo6 hb6 HLv HLen HRk HDr HDf HDu HUn HS1 HS2 HKy HAc HPy HHl HY6
                go_wp2_with fail
                go_loopw [159] (fun i wr => ∃ (c : Nat), c ≤ ln ∧ i = .int .i64 (c : Int) ∧ Hid (∃ xs, wr.ownsRow wx.heap.size tEn 2 (.slice la ln lc) ln xs ∧ Below wx.heap.size wx wr)) (fun i _ => ln - (intOf i).toNat)
                case atStart => exact ⟨0, Nat.zero_le _, rfl, _, HR6.out.1, HR6.out.2⟩
                case round =>
                  obtain ⟨c, hc, rfl, HI⟩ := hrel
                  by_cases hcl : c < ln
                  · obtain ⟨xs, hrow, hbw⟩ := HI.out
                    obtain ⟨g, hg⟩ : ∃ g, la = some ⟨g, 0, none⟩ := by
                      rcases hrow.2 with ⟨h0, h1⟩ | ⟨g, cap', cur, e, -⟩
                      · omega
                      · obtain ⟨rfl, -, -⟩ := Value.slice.inj e
                        exact ⟨g, rfl⟩
                    subst hg
                    have hgl := (hrow.lt g rfl).1
                    have hl2 := hrow.1
                    have hix := idxE (g := g) (n := ln) (cap := lc) hcl
                    have q0 : ∃ u, wr.cell? ⟨g, c * 2, none⟩ = some u := ⟨xs[c * 2]'(by omega), by rw [hrow.cellAt (c * 2) (by omega), List.getElem?_eq_getElem (by omega)]⟩
                    have q1 : ∃ u, wr.cell? ⟨g, c * 2 + 1, none⟩ = some u := ⟨xs[c * 2 + 1]'(by omega), by rw [hrow.cellAt (c * 2 + 1) (by omega), List.getElem?_eq_getElem (by omega)]⟩
                    obtain ⟨u0, q0⟩ := q0
                    obtain ⟨u1, q1⟩ := q1
                    have f0 : wr.frozen? ⟨g, c * 2, none⟩ = false := hrow.frozenAt _
                    have f1 : wr.frozen? ⟨g, c * 2 + 1, none⟩ = false := hrow.frozenAt _
                    have HNx := Lib.hid (show ∀ u v : Value, ∃ xs, ((wr.setCell ⟨g, c * 2, none⟩ u).setCell ⟨g, c * 2 + 1, none⟩ v).ownsRow wx.heap.size tEn 2 (.slice (some ⟨g, 0, none⟩) ln lc) ln xs ∧ Below wx.heap.size wx ((wr.setCell ⟨g, c * 2, none⟩ u).setCell ⟨g, c * 2 + 1, none⟩ v) from fun u v => by
                      obtain ⟨o1, -⟩ := hrow.stored (c * 2) u
                      obtain ⟨o2, -⟩ := o1.stored (c * 2 + 1) v
                      exact ⟨_, o2, (hbw.setCell (p := ⟨g, c * 2, none⟩) hgl u).setCell (p := ⟨g, c * 2 + 1, none⟩) hgl v⟩)
                    clear hrow hbw hgl hl2
                    go_wp2_with fail
                    go_roundw
                    case rel => exact ⟨c + 1, by omega, by go_num, HNx.out _ _⟩
                    case measure => simp [intOf]; omega
                  · obtain ⟨xs, hrow, hbw⟩ := HI.out
                    have HEnd := Lib.hid (And.intro (HN.out.1.on hbw) (And.intro HN.out.2.1 (HN.out.2.2.1.trans (hbw.mono HN.out.2.2.1.size))))
                    rw [← HM'.out] at HEnd
                    clear hrow hbw
                    go_wp2_with fail
                    go_roundw
                    case rel => exact ⟨j + 1, t', by omega, by go_num, HEnd.out.1, by rw [← HM'.out]; exact HEnd.out.2.1, HEnd.out.2.2⟩
                    case measure => simp [intOf]; omega
        · go_wp2_with fail
          go_roundw
          case rel => exact ⟨j + 1, t, by omega, by go_num, HX.out.1, by have := HX.out.2.2.2; omega, HX.out.2.2.1⟩
          case measure => simp [intOf]; omega
      · have hle : t.ents.length ≤ 100 := by have := HS.out.2.1; omega
        have HF := Lib.hid (from_row HS.out.1.al.h ByteArray.empty 1073741824)
        rw [upon_empty, List.take_of_length_le (by omega)] at HF
        obtain ⟨m', hm'⟩ : ∃ m, m = t.ents.length := ⟨_, rfl⟩
        have HM' := Lib.hid hm'
        rw [← hm']
        clear hm'
        have HLe := Lib.hid hle
        clear hle
        go_wp2_with fail
        refine HF.out.mono ?_
        rintro e y ⟨lv, rfl, hlo, hb⟩
        have hs := same_any (own_base hlo (Nat.zero_le _)) (HS.out.1.row.on hb) (by have := HLe.out; omega)
        obtain ⟨la, lc, rfl⟩ := own_slice hlo
        rw [← HM'.out] at hs
        have HSm := Lib.hid hs
        have HBy := Lib.hid (HS.out.2.2.trans (hb.mono HS.out.2.2.size))
        clear hlo hb hs
        rw [← HM'.out]
        go_wp2_with fail
        refine HSm.out.mono ?_
        rintro e z ⟨rfl, hb⟩
        have HBz := Lib.hid (HBy.out.trans (hb.mono HBy.out.size))
        clear hb
        go_wp2_with fail
        go_ret
        exact ⟨rfl, HBz.out⟩
  · go_enter Try.func3, Try.ntmps3
    go_wp2_with fail
    refine (new_al w).mono ?_
    rintro e x0 ⟨rfl, -, hb0⟩
    have HB0 := Lib.hid hb0
    clear hb0
    go_wp2_with fail
    refine (HA.out x0).mono ?_
    rintro e x1 ⟨rfl, hb1⟩
    have HB1 := Lib.hid (HB0.out.trans (hb1.mono HB0.out.size))
    clear hb1
    go_wp2_with fail
    refine (HA.out x1).mono ?_
    rintro e x2 ⟨rfl, hb2⟩
    have HB2 := Lib.hid (HB1.out.trans (hb2.mono HB1.out.size))
    clear hb2
    go_wp2_with fail
    go_ret
    exact ⟨rfl, HB2.out⟩
end Hg.LawH15P
end Go.Proofs.Ytldacdpejncbnaa
