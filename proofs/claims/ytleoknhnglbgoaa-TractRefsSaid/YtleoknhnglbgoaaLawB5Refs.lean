/-
  The statement TractRefs at every node.
-/
import Derived.Test.YtleoknhnglbgoaaTrAwake
import Derived.Test.YtleoknhnglbgoaaTrRow
import Derived.Test.YtleoknhnglbgoaaTrRDir
import Derived.Test.YtleoknhnglbgoaaTrRefA
namespace Go.Proofs.Ytleoknhnglbgoaa
open Go.RowKit
namespace Tr
open Who (wp_region_class quiet_of)

set_option maxHeartbeats 4000000 in
set_option maxRecDepth 100000 in
theorem refs_far (n : Nd) (v : Value) (w : World) (hn : IsNode w n v) (hz : ¬ size n ≤ 300) :
    Calls Try.prog 4 #[v] w fun e x => e = .returned (.bool true) ∧ Below w.heap.size w x := by
  obtain ⟨ao, cap, vs, rfl, -, -⟩ := hn.kids
  have HA := Lib.hid (fun x => awake_any x)
  have HF := Lib.hid (show ∀ x, Below w.heap.size w x → Calls Try.prog 8 #[node4 n.kind n.ta n.tb (.slice ao n.kids.length cap)] x fun e y => e = .returned (.bool false) ∧ Below x.heap.size x y from fun x hx => by
    have := few_any n _ x (hn.below hx)
    rwa [decide_eq_false hz] at this)
  have H0 := Lib.hid (And.intro (fresh_one w (.cells #[.int .i64 n.kind, .string n.ta, .string n.tb, .slice ao n.kids.length cap] 24)) (Box4.new w n.kind n.ta n.tb (.slice ao n.kids.length cap)))
  clear hn hz
  go_enter Try.func4, Try.ntmps4
  go_wp2_with fail
  refine (HA.out _).mono ?_
  rintro e x ⟨rfl, hx⟩
  have H1 := Lib.hid (And.intro (H0.out.1.trans (hx.mono H0.out.1.size)) (H0.out.2.on hx))
  obtain ⟨b0, b1, b2, b3⟩ := H1.out.2.cells
  clear hx
  go_wp2_with fail
  refine (HF.out _ H1.out.1).mono ?_
  rintro e y ⟨rfl, hy⟩
  have H2 := Lib.hid (H1.out.1.trans (hy.mono H1.out.1.size))
  clear hy
  go_wp2_with fail
  refine (HA.out _).mono ?_
  rintro e z ⟨rfl, hz⟩
  go_wp2_with fail
  go_ret
  exact ⟨rfl, H2.out.trans (hz.mono H2.out.size)⟩

/-- How a statement begins, at a node that is soon gone through. -/
theorem isThis_kind (n : Nd) : isThis n = (n.kind == 1) := by cases n; rfl

set_option maxHeartbeats 8000000 in
set_option maxRecDepth 100000 in
theorem refs_near (n : Nd) (v : Value) (w : World) (hn : IsNode w n v) (hz : size n ≤ 300) :
    Calls Try.prog 4 #[v] w fun e x => e = .returned (.bool true) ∧ Below w.heap.size w x := by
  obtain ⟨ao, cap, vs, rfl, -, -⟩ := hn.kids
  have HA := Lib.hid (fun x => awake_any x)
  have HF := Lib.hid (show ∀ x, Below w.heap.size w x → Calls Try.prog 8 #[node4 n.kind n.ta n.tb (.slice ao n.kids.length cap)] x fun e y => e = .returned (.bool true) ∧ Below x.heap.size x y from fun x hx => by
    have := few_any n _ x (hn.below hx)
    rwa [decide_eq_true hz] at this)
  have HB := Lib.hid (fun x (hx : Below w.heap.size w x) => Build_any n _ x (by omega) (hn.below hx))
  have HRR := Lib.hid (fun x (hx : Below w.heap.size w x) => rrefs_any (size n) n false _ x (Nat.le_refl _) hz (hn.below hx))
  have HRD := Lib.hid (fun x want (hx : Below w.heap.size w x) => rdirect_any (size n) n want false _ x (Nat.le_refl _) hz (hn.below hx))
  have HZ := Lib.hid hz
  have H0 := Lib.hid (And.intro (fresh_one w (.cells #[.int .i64 n.kind, .string n.ta, .string n.tb, .slice ao n.kids.length cap] 24)) (Box4.new w n.kind n.ta n.tb (.slice ao n.kids.length cap)))
  clear hn hz
  go_enter Try.func4, Try.ntmps4
  go_wp2_with fail
  refine (HA.out _).mono ?_
  rintro e x1 ⟨rfl, hx⟩
  have H1 := Lib.hid (And.intro (H0.out.1.trans (hx.mono H0.out.1.size)) (H0.out.2.on hx))
  obtain ⟨b0, b1, b2, b3⟩ := H1.out.2.cells
  clear hx H0
  go_wp2_with fail
  refine (HF.out _ H1.out.1).mono ?_
  rintro e x2 ⟨rfl, hy⟩
  have H2 := Lib.hid (And.intro (H1.out.1.trans (hy.mono H1.out.1.size)) (H1.out.2.on hy))
  clear hy b0 b1 b2 b3 H1
  obtain ⟨b0, b1, b2, b3⟩ := H2.out.2.cells
  go_wp2_with fail
  refine (HB.out _ H2.out.1).mono ?_
  rintro e x3 ⟨hb3, ⟨hne, rfl⟩ | ⟨he0, u, rfl, hu⟩⟩
  · have hE : (errOf n != 0) = true := by simpa using hne
    have H3 := Lib.hid (H2.out.1.trans (hb3.mono H2.out.1.size))
    generalize errOf n = E at *
    clear hb3 hne HB HF HA HRR HRD HZ b0 b1 b2 b3
    go_wp2_with fail
    go_ret
    exact ⟨by rfl, H3.out⟩
  · obtain ⟨ut, uv, rfl⟩ := hu.iface
    have hg : good n = true := by
      rcases err_cases n with ⟨h, -⟩ | ⟨h, -⟩ | ⟨h, -⟩ | ⟨-, h, -⟩
      · omega
      · omega
      · omega
      · exact h
    have H3 := Lib.hid (And.intro (H2.out.1.trans (hb3.mono H2.out.1.size)) (And.intro (H2.out.2.on hb3) (hu.mono (Nat.zero_le _))))
    have HG := Lib.hid hg
    clear hb3 he0 b0 b1 b2 b3 H2 hu HB HF HA hg
    go_wp2_with fail
    have HX := Lib.hid (show ∀ x, Order.Fresh x3.drew x → x.cell? ⟨w.heap.size, 0, none⟩ = some (.int .i64 n.kind) ∧ x.cell? ⟨w.heap.size, 1, none⟩ = some (.string n.ta) ∧ x.cell? ⟨w.heap.size, 2, none⟩ = some (.string n.tb) ∧ x.cell? ⟨w.heap.size, 3, none⟩ = some (.slice ao n.kids.length cap) from
      fun x hx => (H3.out.2.1.on ((Below.refl _ _).drew.trans hx)).cells)
    refine Order.region_begin (S := Order.Fresh x3.drew) (by kernel_rfl) ?_
    refine Order.reads_any (idx := [0, 2]) (by kernel_rfl) (Order.Fresh.refl _) (fun _ _ _ _ _ h => Order.noPanic_put h) 4 _ _ (by decide +kernel) ?_
    simp only [Order.pick, List.getElem?_toArray, List.getElem?_cons_zero, List.getElem?_cons_succ]
    repeat (first
      | (refine Order.reads_off (by rfl) ?_
         simp only [Act.put, List.setIfInBounds_toArray, List.set_cons_zero, List.set_cons_succ])
      | (apply Order.reads_on
         · rfl
         · intro x hx
           first
             | (go_simp; rfl)
             | (obtain ⟨i0, i1, i2, i3⟩ := HX.out x hx
                go_simp; rfl)
         simp only [Act.put, List.setIfInBounds_toArray, List.set_cons_zero, List.set_cons_succ]))
    refine Order.reads_end ?_
    apply Order.acts_any (R := Order.Fresh) Order.Fresh.trans (i := 1)
    · rfl
    · decide +kernel
    · rfl
    unfold Oper.wp
    go_simp
    have H3' := Lib.hid (show Below w.heap.size w x3.drew ∧ IsExpr 0 x3.drew n (.iface ut uv) from ⟨H3.out.1.drew, H3.out.2.2.below (Below.refl _ _).drew⟩)
    refine Calls.mono (refs_any n _ _ HZ.out HG.out H3'.out.2) ?_
    rintro e x4 ⟨v4, rfl, hr4, b4⟩
    refine ⟨b4, ?_⟩
    obtain ⟨ro, rc, rfl⟩ := own_slice hr4
    have H4 := Lib.hid (And.intro hr4 (And.intro (H3'.out.1.trans (b4.mono H3'.out.1.size)) b4))
    clear hr4 b4 HX
    apply Order.acts_any (R := Order.Fresh) Order.Fresh.trans (i := 3)
    · rfl
    · decide +kernel
    · rfl
    unfold Oper.wp
    go_simp
    refine Calls.mono (HRR.out _ H4.out.2.1) ?_
    rintro e x5 ⟨v5, rfl, hr5, b5⟩
    refine ⟨b5, ?_⟩
    obtain ⟨so, sc, rfl⟩ := own_slice hr5
    have H5 := Lib.hid (And.intro (own_below H4.out.1 b5) (And.intro hr5 (And.intro (H4.out.2.1.trans (b5.mono H4.out.2.1.size)) ((H4.out.2.2.trans (b5.mono H4.out.2.2.size))))))
    clear hr5 b5
    refine Order.reads_any (idx := [4, 5]) (by kernel_rfl) (Order.Fresh.refl _) (fun _ _ _ _ _ h => Order.noPanic_put h) 0 _ _ (by decide +kernel) ?_
    simp only [Order.pick, List.getElem?_toArray, List.getElem?_cons_zero, List.getElem?_cons_succ]
    repeat (first
      | (refine Order.reads_off (by rfl) ?_
         simp only [Act.put, List.setIfInBounds_toArray, List.set_cons_zero, List.set_cons_succ])
      | (apply Order.reads_on
         · rfl
         · intro x hx
           first
             | (go_simp; rfl)
             | (fail
                go_simp; rfl)
         simp only [Act.put, List.setIfInBounds_toArray, List.set_cons_zero, List.set_cons_succ]))
    refine Order.reads_end ?_
    refine wpAnyH_done (by decide +kernel) ?_ _
    refine NoPanic.normal ?_
    have H6 := Lib.hid (show RefsAt x3.drew.heap.size x5 (.slice ro (refs n false).length rc) (refs n false) ∧ RRefsAt x4.heap.size x5 (.slice so (refs n false).length sc) (refs n false) ∧ Below w.heap.size w x5 ∧ Box4 w.heap.size n.kind n.ta n.tb (.slice ao n.kids.length cap) x5 ∧ IsExpr 0 x5 n (.iface ut uv) from
      ⟨H5.out.1, H5.out.2.1, H5.out.2.2.1, H3.out.2.1.on ((Below.refl _ _).drew.trans H5.out.2.2.2), H3'.out.2.below H5.out.2.2.2⟩)
    have hlen : (refs n false).length ≤ 300 := by have := refs_len n false; have := HZ.out; omega
    clear H3 H3' H4 H5 HRR
    generalize refs n false = l at *
    go_wp2_with fail
    go_loopw [40] (fun i wr => ∃ j : Nat, j ≤ l.length ∧ i = .int .i64 j ∧ Hid (Below x5.heap.size x5 wr)) (fun i _ => l.length - (intOf i).toNat)
    case atStart => exact ⟨0, by omega, rfl, Below.refl _ _⟩
    case round =>
      obtain ⟨j, hj, rfl, HJ⟩ := hrel
      by_cases hlt : j < l.length
      · obtain ⟨g, q, hix, hgb, hc⟩ := ref_at H6.out.1 hlt
        obtain ⟨g', q', hix', hgb', hc'⟩ := rref_at H6.out.2.1 hlt
        have HC := Lib.hid (show ∀ x, Below x5.heap.size x5 x → RefCells x g q l[j] ∧ RefCells x g' q' l[j] from fun x hx => ⟨hc.on hgb hx, hc'.on hgb' hx⟩)
        have hj3 : j ≤ 300 := by omega
        clear hc hc' hgb hgb'
        generalize l[j] = r at *
        go_wp2_with fail
        refine wp_region_class (C := fun x => Below x5.heap.size x5 x) (by kernel_rfl) (by kernel_rfl) HJ.out.drew ?_
        repeat (first
          | go_big_quiet_skip
          | (go_big_quiet_want
             apply quiet_of
             · intro x hx
               obtain ⟨⟨c0, c1, c2⟩, d0, d1, d2⟩ := HC.out x hx
               go_simp
               rfl
             simp only [Act.put, List.setIfInBounds_toArray, List.set_cons_zero, List.set_cons_succ]
             go_big_quiet_on))
        refine wpQuiet_nil ?_
        intro x hx
        have HX := Lib.hid hx
        clear hx HC
        go_wp2_with fail
        go_roundw
        case rel => exact ⟨j + 1, by omega, by go_num, HX⟩
        case measure => simp [intOf]; omega
      · have hj' : j = l.length := by omega
        have hb5 := HJ.out
        have H7 := Lib.hid (And.intro (H6.out.2.2.1.trans (hb5.mono H6.out.2.2.1.size)) (And.intro (H6.out.2.2.2.1.on hb5) (H6.out.2.2.2.2.below hb5)))
        have hD := fun x want (hx : Below wr.heap.size wr x) => direct_any n _ want x HZ.out HG.out (H7.out.2.2.below hx)
        have hP := fun x (hx : Below wr.heap.size wr x) => Plain_any n _ x (H7.out.2.2.below hx)
        rw [isThis_kind] at hP
        have hE := fun x want (hx : Below wr.heap.size wr x) => HRD.out x want (H7.out.1.trans (hx.mono H7.out.1.size))
        have HD := Lib.hid (And.intro (fun x (hx : Below wr.heap.size wr x) => hD x true hx) (fun x (hx : Below wr.heap.size wr x) => hD x false hx))
        have HE := Lib.hid (And.intro (fun x (hx : Below wr.heap.size wr x) => hE x true hx) (fun x (hx : Below wr.heap.size wr x) => hE x false hx))
        have HP := Lib.hid hP
        subst hj'
        clear hb5 hD hP hE H6 HJ HRD
        generalize direct n true false = d1 at *
        generalize direct n false false = d2 at *
        go_wp2_with fail
        refine wp_region_class (C := fun x => Below wr.heap.size wr x) (by kernel_rfl) (by kernel_rfl) (Below.refl _ _).drew ?_
        repeat (first
          | go_big_quiet_skip
          | (go_big_quiet_want
             apply quiet_of
             · intro x hx
               obtain ⟨b0, b1, b2, b3⟩ := (H7.out.2.1.on hx).cells
               first
                 | (go_simp; rfl)
                 | (clear b0 b1 b2 b3; go_simp; go_at_call 14; with_reducible refine (HD.out.1 x hx).mono ?_; rintro e y ⟨rfl, hy⟩; exact ⟨rfl, hx.trans (hy.mono hx.size)⟩)
                 | (clear b0 b1 b2 b3; go_simp; go_at_call 14; with_reducible refine (HD.out.2 x hx).mono ?_; rintro e y ⟨rfl, hy⟩; exact ⟨rfl, hx.trans (hy.mono hx.size)⟩)
                 | (clear b0 b1 b2 b3; go_simp; go_at_call 15; with_reducible refine (HE.out.1 x hx).mono ?_; rintro e y ⟨rfl, hy⟩; exact ⟨rfl, hx.trans (hy.mono hx.size)⟩)
                 | (clear b0 b1 b2 b3; go_simp; go_at_call 15; with_reducible refine (HE.out.2 x hx).mono ?_; rintro e y ⟨rfl, hy⟩; exact ⟨rfl, hx.trans (hy.mono hx.size)⟩)
                 | (clear b0 b1 b2 b3; go_simp; go_at_call 16; with_reducible refine (HP.out x hx).mono ?_; rintro e y ⟨rfl, hy⟩; exact ⟨rfl, hx.trans (hy.mono hx.size)⟩)
             simp only [Act.put, List.setIfInBounds_toArray, List.set_cons_zero, List.set_cons_succ]
             go_big_quiet_on))
        refine wpQuiet_nil ?_
        intro x hx
        have HX := Lib.hid (H7.out.1.trans (hx.mono H7.out.1.size))
        clear hx HD HE HP
        go_wp2_with fail
        go_ret
        exact ⟨by simp, HX.out⟩
end Tr
namespace LawB5Refs
open Tr
theorem walk (n : Nd) (v : Value) (w : World) (hn : IsNode w n v) :
    Calls Try.prog 4 #[v] w fun e x => e = .returned (.bool true) ∧ Below w.heap.size w x := by
  by_cases hz : size n ≤ 300
  · exact refs_near n v w hn hz
  · exact refs_far n v w hn hz
end LawB5Refs
end Go.Proofs.Ytleoknhnglbgoaa
