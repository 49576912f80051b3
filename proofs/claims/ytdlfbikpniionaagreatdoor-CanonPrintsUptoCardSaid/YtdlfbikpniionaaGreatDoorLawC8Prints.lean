/-
  The statement CanonPrints, walked at every configuration whose lists are no longer than 2^48.
-/
import Derived.Test.YtdlfbikpniionaaGreatDoorCnAwake
import Derived.Test.YtdlfbikpniionaaGreatDoorCnRPr
import Derived.Test.YtdlfbikpniionaaGreatDoorCnRGood
import Derived.Test.YtdlfbikpniionaaGreatDoorCnFew
import Derived.Test.YtdlfbikpniionaaGreatDoorGrExpr
import Derived.Test.YtdlfbikpniionaaGreatDoorRunes
namespace Go.Proofs.YtdlfbikpniionaaGreatDoor
open Go.RowKit
namespace LawC8Prints
open Tr (Nd IsNode node4 good size depth errOf fresh_one two own_slice)
open Gr (bs bs_list bs_size Al Rl Ty IsCf CfS prC parseA Glob tCf tPl box1 rn Fit two_boxes samecfg_any print_parse config_runes)
open Sg (plV)
open Cn

set_option maxHeartbeats 4000000 in
set_option maxRecDepth 100000 in
theorem far (l : List Ty) (v : Value) (w : World) (hn : IsCf w l v) (ha : ∀ t ∈ l, ∀ r ∈ t.rels, r.allow.length ≤ 281474976710656) (hz : fewC l = false) :
    Calls Tryz.prog 3 #[v] w fun e x => e = .returned (.bool true) ∧ Below w.heap.size w x := by
  obtain ⟨ao, cap, us, rfl, -⟩ := id hn
  have HA := Lib.hid (fun x => awake_any x)
  have HF := Lib.hid (show ∀ x, Below w.heap.size w x → Calls Tryz.prog 6 #[.agg #[.slice ao l.length cap]] x fun e y => e = .returned (.bool false) ∧ Below x.heap.size x y from fun x hx => by
    have := few_any l _ x (hn.below hx) ha
    rwa [hz] at this)
  have H0 := Lib.hid (And.intro (fresh_one w (.cells #[.slice ao l.length cap] tCf)) (heap_alloc_new w (.cells #[.slice ao l.length cap] tCf)))
  clear hn hz ha
  go_enter Tryz.func3, Tryz.ntmps3
  go_wp2_with fail
  refine (HA.out _).mono ?_
  rintro e x ⟨rfl, hx⟩
  have H1 := Lib.hid (And.intro (H0.out.1.trans (hx.mono H0.out.1.size)) ((hx.block _ (Array.getElem?_eq_some_iff.1 H0.out.2).1).trans H0.out.2))
  have b0 := box1 H1.out.2
  clear hx
  go_wp2_with fail
  refine (HF.out _ H1.out.1).mono ?_
  rintro e y ⟨rfl, hy⟩
  have H2 := Lib.hid (H1.out.1.trans (hy.mono H1.out.1.size))
  clear hy
  go_wp2_with fail
  refine (HA.out _).mono ?_
  rintro e z ⟨rfl, hz⟩
  go_wp2_with fail
  go_ret
  exact ⟨rfl, H2.out.trans (hz.mono H2.out.size)⟩

set_option maxHeartbeats 16000000 in
set_option maxRecDepth 100000 in
theorem near (l : List Ty) (v : Value) (w : World) (hn : IsCf w l v) (hs : ShortC l) (hf : fewC l = true) {a0 a1 : Addr} (hg : Glob a0 a1 w) :
    Calls Tryz.prog 3 #[v] w fun e x => e = .returned (.bool true) ∧ Below w.heap.size w x := by
  obtain ⟨ao, cap, us, rfl, -⟩ := id hn
  have hal := few_allow hf
  have hfp := few_parts hf
  have HA := Lib.hid (fun x => awake_any x)
  have HF := Lib.hid (show ∀ x, Below w.heap.size w x → Calls Tryz.prog 6 #[.agg #[.slice ao l.length cap]] x fun e y => e = .returned (.bool true) ∧ Below x.heap.size x y from fun x hx => by
    have := few_any l _ x (hn.below hx) (fun t ht r hr => Nat.le_trans (hal t ht r hr) (by decide))
    rwa [hf] at this)
  have HP := Lib.hid (fun x (hb : Below w.heap.size w x) => Print_any l _ x (hn.below hb) hal (few_len hf))
  have HGo := Lib.hid (fun x (hb : Below w.heap.size w x) => Good_any l _ x (hn.below hb))
  have HRg := Lib.hid (fun x (hb : Below w.heap.size w x) => rGood_any l _ x (hn.below hb) hs (fun t ht r hr => Nat.le_trans ((hfp.2.1 t ht).2 r hr) (by decide)))
  have HRp := Lib.hid (fun x (hb : Below w.heap.size w x) (h : gC l = true) => rPrint_any l _ x (hn.below hb) h hal (few_len hf h))
  have HL := Lib.hid (fun h => few_len hf h)
  have HFit := Lib.hid (show Fit l from fun t ht r hr => Nat.le_trans ((hfp.2.1 t ht).2 r hr) (by decide))
  have HN := Lib.hid hn
  have HG := Lib.hid hg
  have H0 := Lib.hid (And.intro (fresh_one w (.cells #[.slice ao l.length cap] tCf)) (heap_alloc_new w (.cells #[.slice ao l.length cap] tCf)))
  clear hn hf hg hal hfp hs
  go_enter Tryz.func3, Tryz.ntmps3
  go_wp2_with fail
  refine (HA.out _).mono ?_
  rintro e x1 ⟨rfl, hx⟩
  have H1 := Lib.hid (And.intro (H0.out.1.trans (hx.mono H0.out.1.size)) ((hx.block _ (Array.getElem?_eq_some_iff.1 H0.out.2).1).trans H0.out.2))
  have b0 := box1 H1.out.2
  clear hx H0 HA
  go_wp2_with fail
  refine (HF.out _ H1.out.1).mono ?_
  rintro e x2 ⟨rfl, hx⟩
  have H2 := Lib.hid (And.intro (H1.out.1.trans (hx.mono H1.out.1.size)) ((hx.block _ (Array.getElem?_eq_some_iff.1 H1.out.2).1).trans H1.out.2))
  clear hx H1 HF b0
  have b0 := box1 H2.out.2
  go_wp2_with fail
  refine (HP.out _ H2.out.1).mono ?_
  rintro e x3 ⟨hx, h⟩
  have HK := Lib.hid (And.intro (H2.out.1.trans (hx.mono H2.out.1.size)) ((hx.block _ (Array.getElem?_eq_some_iff.1 H2.out.2).1).trans H2.out.2))
  clear hx H2 HP b0
  have b0 := box1 HK.out.2
  rcases h with ⟨hc, rfl⟩ | ⟨hc, rfl⟩
  · rw [hc] at HGo HRg
    clear hc
    go_wp2_with fail
    have HX := Lib.hid (show ∀ x, Below x3.heap.size x3.drew x → x.cell? ⟨w.heap.size, 0, none⟩ = some (.slice ao l.length cap) from fun x hx => box1 ((((Below.refl x3.heap.size x3).drew.trans hx).block _ (Array.getElem?_eq_some_iff.1 HK.out.2).1).trans HK.out.2))
    refine Order.region_begin (S := Below x3.heap.size x3.drew) (by kernel_rfl) ?_
    refine Order.reads_any (idx := [0, 2]) (by kernel_rfl) (Below.refl _ _) (fun _ _ _ _ _ h => Order.noPanic_put h) 3 _ _ (by decide +kernel) ?_
    simp only [Order.pick, List.getElem?_toArray, List.getElem?_cons_zero, List.getElem?_cons_succ]
    repeat (first
      | (refine Order.reads_off (by rfl) ?_
         simp only [Act.put, List.setIfInBounds_toArray, List.set_cons_zero, List.set_cons_succ])
      | (apply Order.reads_on
         · rfl
         · intro x hx
           first
             | (go_simp; rfl)
             | (have i1 := HX.out x hx
                go_simp; rfl)
         simp only [Act.put, List.setIfInBounds_toArray, List.set_cons_zero, List.set_cons_succ]))
    refine Order.reads_end ?_
    apply Order.acts_any (R := (Below x3.heap.size)) (fun h k => h.trans k) (i := 1)
    · rfl
    · decide +kernel
    · rfl
    unfold Oper.wp
    go_simp
    refine Calls.mono (HGo.out _ (HK.out.1.drew)) ?_
    rintro e u1 ⟨rfl, hu1⟩
    refine ⟨hu1, ?_⟩
    have HU1 := Lib.hid hu1
    clear hu1
    apply Order.acts_any (R := (Below x3.heap.size)) (fun h k => h.trans k) (i := 3)
    · rfl
    · decide +kernel
    · rfl
    unfold Oper.wp
    go_simp
    refine Calls.mono (HRg.out _ (HK.out.1.drew.trans (HU1.out.mono HK.out.1.size))) ?_
    rintro e u2 ⟨rfl, hu2⟩
    refine ⟨hu2.mono HU1.out.size, ?_⟩
    have HU2 := Lib.hid (HU1.out.trans (hu2.mono HU1.out.size))
    clear hu2
    refine Order.reads_any (idx := [4]) (by kernel_rfl) (Below.refl _ _) (fun _ _ _ _ _ h => Order.noPanic_put h) 0 _ _ (by decide +kernel) ?_
    simp only [Order.pick, List.getElem?_toArray, List.getElem?_cons_zero, List.getElem?_cons_succ]
    repeat (first
      | (refine Order.reads_off (by rfl) ?_
         simp only [Act.put, List.setIfInBounds_toArray, List.set_cons_zero, List.set_cons_succ])
      | (apply Order.reads_on
         · rfl
         · intro x hx
           first
             | (go_simp; rfl)
             | (fail
                go_simp; rfl)
         simp only [Act.put, List.setIfInBounds_toArray, List.set_cons_zero, List.set_cons_succ]))
    refine Order.reads_end ?_
    refine wpAnyH_done (by decide +kernel) ?_ _
    refine NoPanic.normal ?_
    have hb2 := (Below.refl x3.heap.size x3).drew.trans HU2.out
    have H4 := Lib.hid (And.intro (HK.out.1.trans (hb2.mono HK.out.1.size)) ((hb2.block _ (Array.getElem?_eq_some_iff.1 HK.out.2).1).trans HK.out.2))
    clear HK HX HU1 HU2 hb2 b0
    have b0 := box1 H4.out.2
    go_wp2_with fail
    refine (HRg.out _ H4.out.1).mono ?_
    rintro e x4 ⟨rfl, hx⟩
    have H5 := Lib.hid (H4.out.1.trans (hx.mono H4.out.1.size))
    clear hx H4 b0
    go_wp2_with fail
    go_ret
    exact ⟨rfl, H5.out⟩
  · rw [hc] at HGo HRg
    have HRp2 := Lib.hid (fun x (hb : Below w.heap.size w x) => HRp.out x hb hc)
    have hlen := HL.out hc
    have hwc := gC_wc hc
    have hru : Gly.runes (bs (prC l)).data.toList = some (rn (prC l)) := config_runes hwc rfl
    have hrl : (rn (prC l)).length = (prC l).length := List.length_map _
    have HR := Lib.hid (fun x => Ref.runes_any (bs (prC l)) x (by rw [bs_size]; omega))
    rw [hru] at HR
    have HX3 := Lib.hid (fun x (hb : Below w.heap.size w x) => Gr.Parse_any (s := bs (prC l)) (by rw [bs_size]; omega) (HG.out.below hb))
    have HQ := Lib.hid (fun h => print_parse (s := bs (prC l)) hwc rfl h)
    have hbe : ((bs (prC l)).toList == (bs (prC l)).toList) = true := beq_self_eq_true _
    have HB := Lib.hid hbe
    have HRL := Lib.hid hrl
    clear hc hlen hwc hru hrl HRp HL HG hbe
    generalize rn (prC l) = rs at *
    go_wp2_with fail
    have HX := Lib.hid (show ∀ x, Below x3.heap.size x3.drew x → x.cell? ⟨w.heap.size, 0, none⟩ = some (.slice ao l.length cap) from fun x hx => box1 ((((Below.refl x3.heap.size x3).drew.trans hx).block _ (Array.getElem?_eq_some_iff.1 HK.out.2).1).trans HK.out.2))
    refine Order.region_begin (S := Below x3.heap.size x3.drew) (by kernel_rfl) ?_
    refine Order.reads_any (idx := [0, 2]) (by kernel_rfl) (Below.refl _ _) (fun _ _ _ _ _ h => Order.noPanic_put h) 3 _ _ (by decide +kernel) ?_
    simp only [Order.pick, List.getElem?_toArray, List.getElem?_cons_zero, List.getElem?_cons_succ]
    repeat (first
      | (refine Order.reads_off (by rfl) ?_
         simp only [Act.put, List.setIfInBounds_toArray, List.set_cons_zero, List.set_cons_succ])
      | (apply Order.reads_on
         · rfl
         · intro x hx
           first
             | (go_simp; rfl)
             | (have i1 := HX.out x hx
                go_simp; rfl)
         simp only [Act.put, List.setIfInBounds_toArray, List.set_cons_zero, List.set_cons_succ]))
    refine Order.reads_end ?_
    apply Order.acts_any (R := (Below x3.heap.size)) (fun h k => h.trans k) (i := 1)
    · rfl
    · decide +kernel
    · rfl
    unfold Oper.wp
    go_simp
    refine Calls.mono (HGo.out _ (HK.out.1.drew)) ?_
    rintro e u1 ⟨rfl, hu1⟩
    refine ⟨hu1, ?_⟩
    have HU1 := Lib.hid hu1
    clear hu1
    apply Order.acts_any (R := (Below x3.heap.size)) (fun h k => h.trans k) (i := 3)
    · rfl
    · decide +kernel
    · rfl
    unfold Oper.wp
    go_simp
    refine Calls.mono (HRg.out _ (HK.out.1.drew.trans (HU1.out.mono HK.out.1.size))) ?_
    rintro e u2 ⟨rfl, hu2⟩
    refine ⟨hu2.mono HU1.out.size, ?_⟩
    have HU2 := Lib.hid (HU1.out.trans (hu2.mono HU1.out.size))
    clear hu2
    refine Order.reads_any (idx := [4]) (by kernel_rfl) (Below.refl _ _) (fun _ _ _ _ _ h => Order.noPanic_put h) 0 _ _ (by decide +kernel) ?_
    simp only [Order.pick, List.getElem?_toArray, List.getElem?_cons_zero, List.getElem?_cons_succ]
    repeat (first
      | (refine Order.reads_off (by rfl) ?_
         simp only [Act.put, List.setIfInBounds_toArray, List.set_cons_zero, List.set_cons_succ])
      | (apply Order.reads_on
         · rfl
         · intro x hx
           first
             | (go_simp; rfl)
             | (fail
                go_simp; rfl)
         simp only [Act.put, List.setIfInBounds_toArray, List.set_cons_zero, List.set_cons_succ]))
    refine Order.reads_end ?_
    refine wpAnyH_done (by decide +kernel) ?_ _
    refine NoPanic.normal ?_
    have hb2 := (Below.refl x3.heap.size x3).drew.trans HU2.out
    have H4 := Lib.hid (And.intro (HK.out.1.trans (hb2.mono HK.out.1.size)) ((hb2.block _ (Array.getElem?_eq_some_iff.1 HK.out.2).1).trans HK.out.2))
    clear HK HX HU1 HU2 hb2 b0
    have b0 := box1 H4.out.2
    go_wp2_with fail
    refine (HRg.out _ H4.out.1).mono ?_
    rintro e x4 ⟨rfl, hx⟩
    have H5 := Lib.hid (And.intro (H4.out.1.trans (hx.mono H4.out.1.size)) ((hx.block _ (Array.getElem?_eq_some_iff.1 H4.out.2).1).trans H4.out.2))
    clear hx H4 b0 HRg HGo
    have b0 := box1 H5.out.2
    go_wp2_with fail
    refine (HRp2.out _ H5.out.1).mono ?_
    rintro e x5 ⟨rfl, hx⟩
    have H6 := Lib.hid (And.intro (H5.out.1.trans (hx.mono H5.out.1.size)) ((hx.block _ (Array.getElem?_eq_some_iff.1 H5.out.2).1).trans H5.out.2))
    clear hx H5 b0 HRp2
    have b0 := box1 H6.out.2
    have hbe := HB.out
    go_wp2_with fail
    refine (HR.out _).mono ?_
    rintro e x6 ⟨rv, rfl, hro, hx⟩
    obtain ⟨o6, c6, rfl⟩ := own_slice hro
    have H7 := Lib.hid (And.intro (H6.out.1.trans (hx.mono H6.out.1.size)) ((hx.block _ (Array.getElem?_eq_some_iff.1 H6.out.2).1).trans H6.out.2))
    clear hx H6 b0 hro HR hbe
    have b0 := box1 H7.out.2
    have hrl := HRL.out
    by_cases h3 : (prC l).length ≤ 3000
    · have hq := HQ.out h3
      have h4 : rs.length ≤ 3000 := by omega
      clear h3 hrl
      go_wp2_with fail
      refine (HX3.out _ H7.out.1).mono ?_
      rintro e x7 ⟨v1, rfl, hv1, hx⟩
      have hi1 : IsCf x7 (parseA (bs (prC l))).1 v1 := CfS.is hv1
      rw [hq.2] at hi1
      rw [hq.1]
      clear hv1 hq
      generalize (parseA (bs (prC l))).2.1 = pp at *
      obtain ⟨pl, pm⟩ := pp
      simp only [plV]
      obtain ⟨o1, c1, us1, rfl, -⟩ := id hi1
      obtain ⟨p1, p2, p3, p4⟩ := two_boxes x7 #[.slice o1 l.length c1] #[.int .i64 pl, .int .i64 pm] tCf tPl
      have hb7 := H7.out.1.trans (hx.mono H7.out.1.size)
      have hk7 := (hx.block _ (Array.getElem?_eq_some_iff.1 H7.out.2).1).trans H7.out.2
      have H8 := Lib.hid (And.intro (hb7.trans (p1.mono hb7.size)) (And.intro ((p1.block _ (Array.getElem?_eq_some_iff.1 hk7).1).trans hk7) (And.intro p2 (hi1.below p1))))
      clear hx H7 b0 HX3 HQ hi1 p1 p2 p3 p4 hb7 hk7
      have HS := Lib.hid (samecfg_any HFit.out H8.out.2.2.2 (HN.out.below H8.out.1))
      have b0 := box1 H8.out.2.1
      have b1 := box1 H8.out.2.2.1
      go_wp2_with fail
      refine HS.out.mono ?_
      rintro e x8 ⟨rfl, hx⟩
      have H9 := Lib.hid (H8.out.1.trans (hx.mono H8.out.1.size))
      clear hx H8
      go_wp2_with fail
      go_ret
      exact ⟨rfl, H9.out⟩
    · have h4 : 3000 < rs.length := by omega
      clear h3 hrl
      go_wp2_with fail
      go_ret
      exact ⟨rfl, H7.out.1⟩
/-- The statement's walk. -/
theorem walk (l : List Ty) (v : Value) (w : World) (hn : IsCf w l v) (hs : ShortC l) (ha : ∀ t ∈ l, ∀ r ∈ t.rels, r.allow.length ≤ 281474976710656) {a0 a1 : Addr} (hg : Glob a0 a1 w) :
    Calls Tryz.prog 3 #[v] w fun e x => e = .returned (.bool true) ∧ Below w.heap.size w x := by
  cases hz : fewC l with
  | true => exact near l v w hn hs hz hg
  | false => exact far l v w hn ha hz
end LawC8Prints
end Go.Proofs.YtdlfbikpniionaaGreatDoor
