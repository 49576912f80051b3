/-
  The statement TractBuilds at every node.
-/
import Derived.Test.YtleoknhnglbgoaaTrAwake
import Derived.Test.YtleoknhnglbgoaaTrNodeB
import Derived.Test.YtleoknhnglbgoaaTrSame
import Derived.Test.YtleoknhnglbgoaaTrRefA
namespace Go.Proofs.Ytleoknhnglbgoaa
open Go.RowKit
namespace Tr

set_option maxHeartbeats 4000000 in
set_option maxRecDepth 100000 in
theorem builds_far (n : Nd) (v : Value) (w : World) (hn : IsNode w n v) (hz : ¬ size n ≤ 300) :
    Calls Try.prog 3 #[v] w fun e x => e = .returned (.bool true) ∧ Below w.heap.size w x := by
  obtain ⟨ao, cap, vs, rfl, -, -⟩ := hn.kids
  have HA := Lib.hid (fun x => awake_any x)
  have HF := Lib.hid (show ∀ x, Below w.heap.size w x → Calls Try.prog 8 #[node4 n.kind n.ta n.tb (.slice ao n.kids.length cap)] x fun e y => e = .returned (.bool false) ∧ Below x.heap.size x y from fun x hx => by
    have := few_any n _ x (hn.below hx)
    rwa [decide_eq_false hz] at this)
  have H0 := Lib.hid (And.intro (fresh_one w (.cells #[.int .i64 n.kind, .string n.ta, .string n.tb, .slice ao n.kids.length cap] 24)) (Box4.new w n.kind n.ta n.tb (.slice ao n.kids.length cap)))
  clear hn hz
  go_enter Try.func3, Try.ntmps3
  go_wp2_with fail
  refine (HA.out _).mono ?_
  rintro e x ⟨rfl, hx⟩
  have H1 := Lib.hid (And.intro (H0.out.1.trans (hx.mono H0.out.1.size)) (H0.out.2.on hx))
  obtain ⟨b0, b1, b2, b3⟩ := H1.out.2.cells
  clear hx
  go_wp2_with fail
  refine (HF.out _ H1.out.1).mono ?_
  rintro e y ⟨rfl, hy⟩
  have H2 := Lib.hid (H1.out.1.trans (hy.mono H1.out.1.size))
  clear hy
  go_wp2_with fail
  refine (HA.out _).mono ?_
  rintro e z ⟨rfl, hz⟩
  go_wp2_with fail
  go_ret
  exact ⟨rfl, H2.out.trans (hz.mono H2.out.size)⟩


/-- The row of a node that a call made. -/
theorem row_of {B : Nat} {x : World} {n : Nd} {v : Value} (h : NodeIn B x n v) (hf : RowFree x v) : ∃ vo vc, v = node4 n.kind n.ta n.tb (.slice vo n.kids.length vc) ∧
    (0 < n.kids.length → ∃ g cur, vo = some ⟨g, 0, none⟩ ∧ B ≤ g ∧ x.heap[g]? = some (.cells cur 24 (0, 0)) ∧ cur.size = n.kids.length * 4) := by
  cases n with
  | mk k a b l =>
  rw [NodeIn] at h
  obtain ⟨ao, cap, vs, rfl, -, hr, -⟩ := h
  refine ⟨ao, cap, rfl, fun hl => ?_⟩
  have hl' : 0 < l.length := hl
  obtain ⟨g, o, rfl, hg, -⟩ := hr (fun e => by rw [e] at hl'; simp at hl')
  obtain ⟨rfl, cur, h1, h2⟩ := hf k a b g o l.length cap rfl
  exact ⟨g, cur, rfl, hg, h1, h2⟩

set_option maxHeartbeats 8000000 in
set_option maxRecDepth 100000 in
theorem builds_near (n : Nd) (v : Value) (w : World) (hn : IsNode w n v) (hz : size n ≤ 300) :
    Calls Try.prog 3 #[v] w fun e x => e = .returned (.bool true) ∧ Below w.heap.size w x := by
  obtain ⟨ao, cap, vs, rfl, -, -⟩ := hn.kids
  have HA := Lib.hid (fun x => awake_any x)
  have HF := Lib.hid (show ∀ x, Below w.heap.size w x → Calls Try.prog 8 #[node4 n.kind n.ta n.tb (.slice ao n.kids.length cap)] x fun e y => e = .returned (.bool true) ∧ Below x.heap.size x y from fun x hx => by
    have := few_any n _ x (hn.below hx)
    rwa [decide_eq_true hz] at this)
  have HB := Lib.hid (fun x (hx : Below w.heap.size w x) => Build_any n _ x hz (hn.below hx))
  have HFi := Lib.hid (fun x (hx : Below w.heap.size w x) => rfits_any n _ x hz (hn.below hx))
  have HSa := Lib.hid (fun x u (hx : Below w.heap.size w x) (hu : IsNode x n u) => rsame_any (size n) n u _ x (Nat.le_refl _) hz hu (hn.below hx))
  have HZ := Lib.hid hz
  have hll : n.kids.length ≤ 300 := by have := size_kids n; have := sizes_len n.kids; omega
  have H0 := Lib.hid (And.intro (fresh_one w (.cells #[.int .i64 n.kind, .string n.ta, .string n.tb, .slice ao n.kids.length cap] 24)) (Box4.new w n.kind n.ta n.tb (.slice ao n.kids.length cap)))
  clear hn hz
  go_enter Try.func3, Try.ntmps3
  go_wp2_with fail
  refine (HA.out _).mono ?_
  rintro e x1 ⟨rfl, hx⟩
  have H1 := Lib.hid (And.intro (H0.out.1.trans (hx.mono H0.out.1.size)) (H0.out.2.on hx))
  obtain ⟨b0, b1, b2, b3⟩ := H1.out.2.cells
  clear hx H0
  go_wp2_with fail
  refine (HF.out _ H1.out.1).mono ?_
  rintro e x2 ⟨rfl, hy⟩
  have H2 := Lib.hid (And.intro (H1.out.1.trans (hy.mono H1.out.1.size)) (H1.out.2.on hy))
  clear hy b0 b1 b2 b3 H1
  obtain ⟨b0, b1, b2, b3⟩ := H2.out.2.cells
  go_wp2_with fail
  refine (HB.out _ H2.out.1).mono ?_
  rintro e x3 ⟨hb3, ⟨hne, rfl⟩ | ⟨he0, u, rfl, hu⟩⟩
  · have hE : (errOf n != 0) = true := by simpa using hne
    have hE2 : (errOf n == 0) = false := by simpa using hne
    have H3 := Lib.hid (And.intro (H2.out.1.trans (hb3.mono H2.out.1.size)) (H2.out.2.on hb3))
    have HC := Lib.hid (HFi.out _ H3.out.1)
    generalize errOf n = E at *
    clear hb3 hne HB HF HA HSa HZ HFi b0 b1 b2 b3
    obtain ⟨b0, b1, b2, b3⟩ := H3.out.2.cells
    go_wp2_with fail
    refine HC.out.mono ?_
    rintro e x4 ⟨rfl, hb4⟩
    have H4 := Lib.hid (H3.out.1.trans (hb4.mono H3.out.1.size))
    clear hb4
    go_wp2_with fail
    go_ret
    exact ⟨rfl, H4.out⟩
  · obtain ⟨ut, uv, rfl⟩ := hu.iface
    have hg : good n = true := by
      rcases err_cases n with ⟨h, -⟩ | ⟨h, -⟩ | ⟨h, -⟩ | ⟨-, h, -⟩
      · omega
      · omega
      · omega
      · exact h
    have H3 := Lib.hid (And.intro (H2.out.1.trans (hb3.mono H2.out.1.size)) (And.intro (H2.out.2.on hb3) (hu.mono (Nat.zero_le _))))
    have hC := HFi.out _ H3.out.1
    rw [he0] at hC
    have HC := Lib.hid hC
    have HM := Lib.hid (fun x (hx : IsExpr 0 x n (.iface ut uv)) => node_any (size n) n _ x (Nat.le_refl _) HZ.out hg hx)
    clear hb3 he0 b0 b1 b2 b3 H2 hu HB HF HA hg hC HFi HZ
    obtain ⟨b0, b1, b2, b3⟩ := H3.out.2.1.cells
    go_wp2_with fail
    refine HC.out.mono ?_
    rintro e x4 ⟨rfl, hb4⟩
    have H4 := Lib.hid (And.intro (H3.out.1.trans (hb4.mono H3.out.1.size)) (And.intro (H3.out.2.1.on hb4) (H3.out.2.2.below hb4)))
    clear hb4 H3 HC b0 b1 b2 b3
    obtain ⟨f, fa, hm, hC5⟩ := HM.out x4 H4.out.2.2
    have HM5 := Lib.hid hm
    have HC5 := Lib.hid hC5
    clear hm hC5
    go_wp2_with (refine walk_invoke rfl _ rfl rfl HM5.out ?_)
    refine HC5.out.mono ?_
    rintro e x5 ⟨v5, rfl, hv5, hb5, hf5⟩
    refine ⟨_, rfl, ?_⟩
    obtain ⟨vo, vc, rfl, hrow⟩ := row_of hv5 hf5
    have hal := fresh_one x5 (.cells #[.int .i64 n.kind, .string n.ta, .string n.tb, .slice vo n.kids.length vc] 24)
    have H5 := Lib.hid (And.intro (H4.out.1.trans (hb5.mono H4.out.1.size)) (And.intro (H4.out.2.1.on hb5) hb5))
    have H6 := Lib.hid (And.intro (H5.out.1.trans (hal.mono H5.out.1.size)) (And.intro (H5.out.2.1.on hal) (And.intro (hb5.trans (hal.mono hb5.size)) (Box4.new x5 n.kind n.ta n.tb (.slice vo n.kids.length vc)))))
    have HR5 := Lib.hid hrow
    have HC6 := Lib.hid (HSa.out _ _ H6.out.1 ((NodeIn.is (size n) (Nat.le_refl _) hv5).below hal))
    clear hv5 hf5 hrow hal hb5 HM5 HC5
    obtain ⟨b0, b1, b2, b3⟩ := H6.out.2.1.cells
    go_wp2_with fail
    refine HC6.out.mono ?_
    rintro e x6 ⟨rfl, hb6⟩
    have hs5 := H5.out.2.2.size
    have H7 := Lib.hid (And.intro (H6.out.1.trans (hb6.mono H6.out.1.size)) (And.intro (H6.out.2.1.on hb6) (And.intro (H6.out.2.2.1.trans (hb6.mono H6.out.2.2.1.size)) (H6.out.2.2.2.on hb6))))
    have HR6 := Lib.hid (show 0 < n.kids.length → ∃ g cur, vo = some ⟨g, 0, none⟩ ∧ x4.heap.size ≤ g ∧ g < x5.heap.size ∧ x6.heap[g]? = some (.cells cur 24 (0, 0)) ∧ cur.size = n.kids.length * 4 from fun hl => by
      obtain ⟨g, cur, e1, e2, e3, e4⟩ := HR5.out hl
      have hgl := (Array.getElem?_eq_some_iff.1 e3).1
      exact ⟨g, cur, e1, e2, hgl, (hb6.block g (by simp; omega)).trans (((fresh_one x5 _).block g hgl).trans e3), e4⟩)
    clear hb6 b0 b1 b2 b3 H5 H6 HR5 HC6
    go_wp2_with fail
    go_region
    · have hby : Below x6.heap.size x6 (x6.alloc (.cells #[.bool false] 4)).drew := (fresh_one _ _).drew
      obtain ⟨e0, e1, e2, e3⟩ := (H7.out.2.2.2.on (fresh_one x6 (.cells #[.bool false] 4))).cells
      have HI := Lib.hid (show Below x4.heap.size x4 (x6.alloc (.cells #[.bool false] 4)).drew ∧ Box4 x5.heap.size n.kind n.ta n.tb (.slice vo n.kids.length vc) (x6.alloc (.cells #[.bool false] 4)).drew ∧ (0 < n.kids.length → ∃ g cur, vo = some ⟨g, 0, none⟩ ∧ x4.heap.size ≤ g ∧ g < x5.heap.size ∧ (x6.alloc (.cells #[.bool false] 4)).drew.heap[g]? = some (.cells cur 24 (0, 0)) ∧ cur.size = n.kids.length * 4) from
        ⟨H7.out.2.2.1.trans (hby.mono H7.out.2.2.1.size), H7.out.2.2.2.on hby, fun hl => by
          obtain ⟨g, cur, e1, e2, e3, e4, e5⟩ := HR6.out hl
          exact ⟨g, cur, e1, e2, e3, (hby.block g (Array.getElem?_eq_some_iff.1 e4).1).trans e4, e5⟩⟩)
      clear hby
      go_wp2_with fail
      go_loopw [55] (fun i wr => ∃ j : Nat, j ≤ n.kids.length ∧ i = .int .i64 j ∧ Hid (Below x4.heap.size x4 wr ∧ Box4 x5.heap.size n.kind n.ta n.tb (.slice vo n.kids.length vc) wr ∧ (0 < n.kids.length → ∃ g cur, vo = some ⟨g, 0, none⟩ ∧ x4.heap.size ≤ g ∧ g < x5.heap.size ∧ wr.heap[g]? = some (.cells cur 24 (0, 0)) ∧ cur.size = n.kids.length * 4))) (fun i _ => n.kids.length - (intOf i).toNat)
      case atStart => exact ⟨0, by omega, rfl, HI⟩
      case round =>
        obtain ⟨j, hj, rfl, HJ⟩ := hrel
        clear HI HR6 H7 e0 e1 e2 e3
        by_cases hlt : j < n.kids.length
        · obtain ⟨g, cur, rfl, hg4, hg5, hgh, hcs⟩ := HJ.out.2.2 (by omega)
          have hjx : ∀ W, (Instr.indexAt 22 (.slice (some ⟨g, 0, none⟩) n.kids.length vc) (.int .i64 (j : Int))).run Try.prog W = .ok (.pointer (some ⟨g, j * 4, none⟩)) W := fun W => by
            rw [run_indexAt_slice W _ _ _ _ _ _ elemN, if_pos ⟨by omega, by omega⟩, sizeN]
            have e : ((j : Int)).toNat = j := by omega
            simp only [Result.andThen_ok, e, Addr.add_lit, Nat.zero_add]
          have hcell : ∀ c, c < 4 → ∃ o, wr.cell? ⟨g, j * 4 + c, none⟩ = some o := fun c hc => by
            rw [Lib.cell_of_heap hgh]
            exact ⟨_, Array.getElem?_eq_getElem (by omega)⟩
          obtain ⟨o0, d0⟩ := hcell 0 (by omega)
          obtain ⟨o1, d1⟩ := hcell 1 (by omega)
          obtain ⟨o2, d2⟩ := hcell 2 (by omega)
          obtain ⟨o3, d3⟩ := hcell 3 (by omega)
          rw [Nat.add_zero] at d0
          have z0 : wr.frozen? ⟨g, j * 4, none⟩ = false := Lib.frozen_of_heap hgh _
          have z1 : wr.frozen? ⟨g, j * 4 + 1, none⟩ = false := Lib.frozen_of_heap hgh _
          have z2 : wr.frozen? ⟨g, j * 4 + 2, none⟩ = false := Lib.frozen_of_heap hgh _
          have z3 : wr.frozen? ⟨g, j * 4 + 3, none⟩ = false := Lib.frozen_of_heap hgh _
          obtain ⟨q0, q1, q2, q3⟩ := HJ.out.2.1.cells
          have hj3 : j ≤ 300 := by omega
          have HP := Lib.hid (show Hid (Below x4.heap.size x4 ((((wr.setCell ⟨g, j * 4, none⟩ (.int .i64 0)).setCell ⟨g, j * 4 + 1, none⟩ (.string ⟨#[]⟩)).setCell ⟨g, j * 4 + 2, none⟩ (.string ⟨#[]⟩)).setCell ⟨g, j * 4 + 3, none⟩ (.slice none 0 0)) ∧ Box4 x5.heap.size n.kind n.ta n.tb (.slice (some ⟨g, 0, none⟩) n.kids.length vc) ((((wr.setCell ⟨g, j * 4, none⟩ (.int .i64 0)).setCell ⟨g, j * 4 + 1, none⟩ (.string ⟨#[]⟩)).setCell ⟨g, j * 4 + 2, none⟩ (.string ⟨#[]⟩)).setCell ⟨g, j * 4 + 3, none⟩ (.slice none 0 0)) ∧ (0 < n.kids.length → ∃ g1 cur, some (⟨g, 0, none⟩ : Addr) = some ⟨g1, 0, none⟩ ∧ x4.heap.size ≤ g1 ∧ g1 < x5.heap.size ∧ ((((wr.setCell ⟨g, j * 4, none⟩ (.int .i64 0)).setCell ⟨g, j * 4 + 1, none⟩ (.string ⟨#[]⟩)).setCell ⟨g, j * 4 + 2, none⟩ (.string ⟨#[]⟩)).setCell ⟨g, j * 4 + 3, none⟩ (.slice none 0 0)).heap[g1]? = some (.cells cur 24 (0, 0)) ∧ cur.size = n.kids.length * 4)) from by
            have hne : ∀ (x : World) (p : Addr) (u : Value), p.block = g → (x.setCell p u).heap[x5.heap.size]? = x.heap[x5.heap.size]? := fun x p u hp => Below.heap_setCell _ _ _ _ (by omega)
            refine Lib.hid ⟨(((HJ.out.1.setCell hg4 _).setCell hg4 _).setCell hg4 _).setCell hg4 _, ?_, fun _ => ⟨g, _, rfl, hg4, hg5, put4 hgh _ _ _ _, ?_⟩⟩
            · exact (hne _ _ _ rfl).trans ((hne _ _ _ rfl).trans ((hne _ _ _ rfl).trans ((hne _ _ _ rfl).trans HJ.out.2.1)))
            · rw [Array.size_setIfInBounds, Array.size_setIfInBounds, Array.size_setIfInBounds, Array.size_setIfInBounds]
              exact hcs)
          clear hcell hgh hcs HJ
          go_wp2_with fail
          go_roundw
          case rel => exact ⟨j + 1, by omega, by go_num, HP.out⟩
          case measure => simp [intOf]; omega
        · have hz := HJ.out.1
          clear HJ
          go_wp2_with fail
          have HT := Lib.hid (show Below w.heap.size w wr ∧ Box4 w.heap.size n.kind n.ta n.tb (.slice ao n.kids.length cap) wr ∧ IsExpr 0 wr n (.iface ut uv) from ⟨H4.out.1.trans (hz.mono H4.out.1.size), H4.out.2.1.on hz, H4.out.2.2.below hz⟩)
          have HX := Lib.hid (show ∀ x, Order.Fresh wr.drew x → x.cell? ⟨w.heap.size, 0, none⟩ = some (.int .i64 n.kind) ∧ x.cell? ⟨w.heap.size, 1, none⟩ = some (.string n.ta) ∧ x.cell? ⟨w.heap.size, 2, none⟩ = some (.string n.tb) ∧ x.cell? ⟨w.heap.size, 3, none⟩ = some (.slice ao n.kids.length cap) from
            fun x hx => (HT.out.2.1.on ((Below.refl _ _).drew.trans hx)).cells)
          obtain ⟨f9, fa9, hm9, hC9⟩ := HM.out wr.drew (HT.out.2.2.below (Below.refl _ _).drew)
          have HM9 := Lib.hid hm9
          have HC9 := Lib.hid hC9
          clear hm9 hC9 hz HM H4
          refine Order.region_begin (S := Order.Fresh wr.drew) (by kernel_rfl) ?_
          refine Order.reads_any (idx := [0, 2]) (by kernel_rfl) (Order.Fresh.refl _) (fun _ _ _ _ _ h => Order.noPanic_put h) 3 _ _ (by decide +kernel) ?_
          simp only [Order.pick, List.getElem?_toArray, List.getElem?_cons_zero, List.getElem?_cons_succ]
          repeat (first
            | (refine Order.reads_off (by rfl) ?_
               simp only [Act.put, List.setIfInBounds_toArray, List.set_cons_zero, List.set_cons_succ])
            | (apply Order.reads_on
               · rfl
               · intro x hx
                 first
                   | (go_simp; rfl)
                   | (obtain ⟨i0, i1, i2, i3⟩ := HX.out x hx
                      go_simp; rfl)
               simp only [Act.put, List.setIfInBounds_toArray, List.set_cons_zero, List.set_cons_succ]))
          refine Order.reads_end ?_
          apply Order.acts_any (R := Order.Fresh) Order.Fresh.trans (i := 1)
          · rfl
          · decide +kernel
          · rfl
          refine wp_invoke _ rfl rfl HM9.out ?_
          refine HC9.out.mono ?_
          rintro e y1 ⟨v9, rfl, hv9, hb9, -⟩
          have hn9 := NodeIn.is (size n) (Nat.le_refl _) hv9
          obtain ⟨ao9, cp9, -, rfl, -, -⟩ := hn9.open
          refine ⟨_, rfl, hb9, ?_⟩
          have hw9 : Below w.heap.size w y1 := HT.out.1.drew.trans (hb9.mono HT.out.1.size)
          have HS9 := Lib.hid (And.intro hw9 (HSa.out y1 _ hw9 hn9))
          clear hv9 hb9 hn9 hw9 HX HT HC9 HM9 HSa
          simp only [Act.put, List.setIfInBounds_toArray]
          apply Order.acts_any (R := Order.Fresh) Order.Fresh.trans (i := 3)
          · rfl
          · decide +kernel
          · rfl
          unfold Oper.wp
          go_simp
          refine Calls.mono HS9.out.2 ?_
          rintro e y2 ⟨rfl, hb10⟩
          refine ⟨hb10, ?_⟩
          have H10 := Lib.hid (HS9.out.1.trans (hb10.mono HS9.out.1.size))
          clear hb10 HS9
          refine Order.reads_any (idx := [4]) (by kernel_rfl) (Order.Fresh.refl _) (fun _ _ _ _ _ h => Order.noPanic_put h) 0 _ _ (by decide +kernel) ?_
          simp only [Order.pick, List.getElem?_toArray, List.getElem?_cons_zero, List.getElem?_cons_succ]
          repeat (first
            | (refine Order.reads_off (by rfl) ?_
               simp only [Act.put, List.setIfInBounds_toArray, List.set_cons_zero, List.set_cons_succ])
            | (apply Order.reads_on
               · rfl
               · intro x hx
                 first
                   | (go_simp; rfl)
                   | (fail
                      go_simp; rfl)
               simp only [Act.put, List.setIfInBounds_toArray, List.set_cons_zero, List.set_cons_succ]))
          refine Order.reads_end ?_
          refine wpAnyH_done (by decide +kernel) ?_ _
          refine NoPanic.normal ?_
          go_wp2_with fail
          go_ret
          exact ⟨rfl, H10.out⟩
    · have hby : Below x6.heap.size x6 (x6.alloc (.cells #[.bool true] 4)).drew := (fresh_one _ _).drew
      obtain ⟨e0, e1, e2, e3⟩ := (H7.out.2.2.2.on (fresh_one x6 (.cells #[.bool true] 4))).cells
      have HI := Lib.hid (show Below x4.heap.size x4 (x6.alloc (.cells #[.bool true] 4)).drew ∧ Box4 x5.heap.size n.kind n.ta n.tb (.slice vo n.kids.length vc) (x6.alloc (.cells #[.bool true] 4)).drew ∧ (0 < n.kids.length → ∃ g cur, vo = some ⟨g, 0, none⟩ ∧ x4.heap.size ≤ g ∧ g < x5.heap.size ∧ (x6.alloc (.cells #[.bool true] 4)).drew.heap[g]? = some (.cells cur 24 (0, 0)) ∧ cur.size = n.kids.length * 4) from
        ⟨H7.out.2.2.1.trans (hby.mono H7.out.2.2.1.size), H7.out.2.2.2.on hby, fun hl => by
          obtain ⟨g, cur, e1, e2, e3, e4, e5⟩ := HR6.out hl
          exact ⟨g, cur, e1, e2, e3, (hby.block g (Array.getElem?_eq_some_iff.1 e4).1).trans e4, e5⟩⟩)
      clear hby
      by_cases hL : n.kids.length = 0
      · have eL : ((n.kids.length : Int) != 0) = false := by rw [hL]; rfl
        have hz := HI.out.1
        clear hL HI H7 HR6
        go_wp2_with fail
        obtain ⟨zz, hzz⟩ : ∃ zz, zz = (x6.alloc (.cells #[.bool true] 4)).drew := ⟨_, rfl⟩
        rw [← hzz] at hz ⊢
        clear hzz e0 e1 e2 e3
        have HT := Lib.hid (show Below w.heap.size w zz ∧ Box4 w.heap.size n.kind n.ta n.tb (.slice ao n.kids.length cap) zz ∧ IsExpr 0 zz n (.iface ut uv) from ⟨H4.out.1.trans (hz.mono H4.out.1.size), H4.out.2.1.on hz, H4.out.2.2.below hz⟩)
        have HX := Lib.hid (show ∀ x, Order.Fresh zz.drew x → x.cell? ⟨w.heap.size, 0, none⟩ = some (.int .i64 n.kind) ∧ x.cell? ⟨w.heap.size, 1, none⟩ = some (.string n.ta) ∧ x.cell? ⟨w.heap.size, 2, none⟩ = some (.string n.tb) ∧ x.cell? ⟨w.heap.size, 3, none⟩ = some (.slice ao n.kids.length cap) from
          fun x hx => (HT.out.2.1.on ((Below.refl _ _).drew.trans hx)).cells)
        obtain ⟨f9, fa9, hm9, hC9⟩ := HM.out zz.drew (HT.out.2.2.below (Below.refl _ _).drew)
        have HM9 := Lib.hid hm9
        have HC9 := Lib.hid hC9
        clear hm9 hC9 hz HM H4
        refine Order.region_begin (S := Order.Fresh zz.drew) (by kernel_rfl) ?_
        refine Order.reads_any (idx := [0, 2]) (by kernel_rfl) (Order.Fresh.refl _) (fun _ _ _ _ _ h => Order.noPanic_put h) 3 _ _ (by decide +kernel) ?_
        simp only [Order.pick, List.getElem?_toArray, List.getElem?_cons_zero, List.getElem?_cons_succ]
        repeat (first
          | (refine Order.reads_off (by rfl) ?_
             simp only [Act.put, List.setIfInBounds_toArray, List.set_cons_zero, List.set_cons_succ])
          | (apply Order.reads_on
             · rfl
             · intro x hx
               first
                 | (go_simp; rfl)
                 | (obtain ⟨i0, i1, i2, i3⟩ := HX.out x hx
                    go_simp; rfl)
             simp only [Act.put, List.setIfInBounds_toArray, List.set_cons_zero, List.set_cons_succ]))
        refine Order.reads_end ?_
        apply Order.acts_any (R := Order.Fresh) Order.Fresh.trans (i := 1)
        · rfl
        · decide +kernel
        · rfl
        refine wp_invoke _ rfl rfl HM9.out ?_
        refine HC9.out.mono ?_
        rintro e y1 ⟨v9, rfl, hv9, hb9, -⟩
        have hn9 := NodeIn.is (size n) (Nat.le_refl _) hv9
        obtain ⟨ao9, cp9, -, rfl, -, -⟩ := hn9.open
        refine ⟨_, rfl, hb9, ?_⟩
        have hw9 : Below w.heap.size w y1 := HT.out.1.drew.trans (hb9.mono HT.out.1.size)
        have HS9 := Lib.hid (And.intro hw9 (HSa.out y1 _ hw9 hn9))
        clear hv9 hb9 hn9 hw9 HX HT HC9 HM9 HSa
        simp only [Act.put, List.setIfInBounds_toArray]
        apply Order.acts_any (R := Order.Fresh) Order.Fresh.trans (i := 3)
        · rfl
        · decide +kernel
        · rfl
        unfold Oper.wp
        go_simp
        refine Calls.mono HS9.out.2 ?_
        rintro e y2 ⟨rfl, hb10⟩
        refine ⟨hb10, ?_⟩
        have H10 := Lib.hid (HS9.out.1.trans (hb10.mono HS9.out.1.size))
        clear hb10 HS9
        refine Order.reads_any (idx := [4]) (by kernel_rfl) (Order.Fresh.refl _) (fun _ _ _ _ _ h => Order.noPanic_put h) 0 _ _ (by decide +kernel) ?_
        simp only [Order.pick, List.getElem?_toArray, List.getElem?_cons_zero, List.getElem?_cons_succ]
        repeat (first
          | (refine Order.reads_off (by rfl) ?_
             simp only [Act.put, List.setIfInBounds_toArray, List.set_cons_zero, List.set_cons_succ])
          | (apply Order.reads_on
             · rfl
             · intro x hx
               first
                 | (go_simp; rfl)
                 | (fail
                    go_simp; rfl)
             simp only [Act.put, List.setIfInBounds_toArray, List.set_cons_zero, List.set_cons_succ]))
        refine Order.reads_end ?_
        refine wpAnyH_done (by decide +kernel) ?_ _
        refine NoPanic.normal ?_
        go_wp2_with fail
        go_ret
        exact ⟨rfl, H10.out⟩
      · have eL : ((n.kids.length : Int) != 0) = true := bne_iff_ne.2 (by omega)
        go_wp2_with fail
        go_loopw [47] (fun i wr => ∃ j : Nat, j ≤ n.kids.length ∧ i = .int .i64 j ∧ Hid (Below x4.heap.size x4 wr ∧ Box4 x5.heap.size n.kind n.ta n.tb (.slice vo n.kids.length vc) wr ∧ (0 < n.kids.length → ∃ g cur, vo = some ⟨g, 0, none⟩ ∧ x4.heap.size ≤ g ∧ g < x5.heap.size ∧ wr.heap[g]? = some (.cells cur 24 (0, 0)) ∧ cur.size = n.kids.length * 4))) (fun i _ => n.kids.length - (intOf i).toNat)
        case atStart => exact ⟨0, by omega, rfl, HI⟩
        case round =>
          obtain ⟨j, hj, rfl, HJ⟩ := hrel
          clear HI HR6 H7 e0 e1 e2 e3 eL
          by_cases hlt : j < n.kids.length
          · obtain ⟨g, cur, rfl, hg4, hg5, hgh, hcs⟩ := HJ.out.2.2 (by omega)
            have hjx : ∀ W, (Instr.indexAt 22 (.slice (some ⟨g, 0, none⟩) n.kids.length vc) (.int .i64 (j : Int))).run Try.prog W = .ok (.pointer (some ⟨g, j * 4, none⟩)) W := fun W => by
              rw [run_indexAt_slice W _ _ _ _ _ _ elemN, if_pos ⟨by omega, by omega⟩, sizeN]
              have e : ((j : Int)).toNat = j := by omega
              simp only [Result.andThen_ok, e, Addr.add_lit, Nat.zero_add]
            have hcell : ∀ c, c < 4 → ∃ o, wr.cell? ⟨g, j * 4 + c, none⟩ = some o := fun c hc => by
              rw [Lib.cell_of_heap hgh]
              exact ⟨_, Array.getElem?_eq_getElem (by omega)⟩
            obtain ⟨o0, d0⟩ := hcell 0 (by omega)
            obtain ⟨o1, d1⟩ := hcell 1 (by omega)
            obtain ⟨o2, d2⟩ := hcell 2 (by omega)
            obtain ⟨o3, d3⟩ := hcell 3 (by omega)
            rw [Nat.add_zero] at d0
            have z0 : wr.frozen? ⟨g, j * 4, none⟩ = false := Lib.frozen_of_heap hgh _
            have z1 : wr.frozen? ⟨g, j * 4 + 1, none⟩ = false := Lib.frozen_of_heap hgh _
            have z2 : wr.frozen? ⟨g, j * 4 + 2, none⟩ = false := Lib.frozen_of_heap hgh _
            have z3 : wr.frozen? ⟨g, j * 4 + 3, none⟩ = false := Lib.frozen_of_heap hgh _
            obtain ⟨q0, q1, q2, q3⟩ := HJ.out.2.1.cells
            have hj3 : j ≤ 300 := by omega
            have HP := Lib.hid (show Hid (Below x4.heap.size x4 ((((wr.setCell ⟨g, j * 4, none⟩ (.int .i64 0)).setCell ⟨g, j * 4 + 1, none⟩ (.string ⟨#[]⟩)).setCell ⟨g, j * 4 + 2, none⟩ (.string ⟨#[]⟩)).setCell ⟨g, j * 4 + 3, none⟩ (.slice none 0 0)) ∧ Box4 x5.heap.size n.kind n.ta n.tb (.slice (some ⟨g, 0, none⟩) n.kids.length vc) ((((wr.setCell ⟨g, j * 4, none⟩ (.int .i64 0)).setCell ⟨g, j * 4 + 1, none⟩ (.string ⟨#[]⟩)).setCell ⟨g, j * 4 + 2, none⟩ (.string ⟨#[]⟩)).setCell ⟨g, j * 4 + 3, none⟩ (.slice none 0 0)) ∧ (0 < n.kids.length → ∃ g1 cur, some (⟨g, 0, none⟩ : Addr) = some ⟨g1, 0, none⟩ ∧ x4.heap.size ≤ g1 ∧ g1 < x5.heap.size ∧ ((((wr.setCell ⟨g, j * 4, none⟩ (.int .i64 0)).setCell ⟨g, j * 4 + 1, none⟩ (.string ⟨#[]⟩)).setCell ⟨g, j * 4 + 2, none⟩ (.string ⟨#[]⟩)).setCell ⟨g, j * 4 + 3, none⟩ (.slice none 0 0)).heap[g1]? = some (.cells cur 24 (0, 0)) ∧ cur.size = n.kids.length * 4)) from by
              have hne : ∀ (x : World) (p : Addr) (u : Value), p.block = g → (x.setCell p u).heap[x5.heap.size]? = x.heap[x5.heap.size]? := fun x p u hp => Below.heap_setCell _ _ _ _ (by omega)
              refine Lib.hid ⟨(((HJ.out.1.setCell hg4 _).setCell hg4 _).setCell hg4 _).setCell hg4 _, ?_, fun _ => ⟨g, _, rfl, hg4, hg5, put4 hgh _ _ _ _, ?_⟩⟩
              · exact (hne _ _ _ rfl).trans ((hne _ _ _ rfl).trans ((hne _ _ _ rfl).trans ((hne _ _ _ rfl).trans HJ.out.2.1)))
              · rw [Array.size_setIfInBounds, Array.size_setIfInBounds, Array.size_setIfInBounds, Array.size_setIfInBounds]
                exact hcs)
            clear hcell hgh hcs HJ
            go_wp2_with fail
            go_roundw
            case rel => exact ⟨j + 1, by omega, by go_num, HP.out⟩
            case measure => simp [intOf]; omega
          · have hz := HJ.out.1
            clear HJ
            go_wp2_with fail
            have HT := Lib.hid (show Below w.heap.size w wr ∧ Box4 w.heap.size n.kind n.ta n.tb (.slice ao n.kids.length cap) wr ∧ IsExpr 0 wr n (.iface ut uv) from ⟨H4.out.1.trans (hz.mono H4.out.1.size), H4.out.2.1.on hz, H4.out.2.2.below hz⟩)
            have HX := Lib.hid (show ∀ x, Order.Fresh wr.drew x → x.cell? ⟨w.heap.size, 0, none⟩ = some (.int .i64 n.kind) ∧ x.cell? ⟨w.heap.size, 1, none⟩ = some (.string n.ta) ∧ x.cell? ⟨w.heap.size, 2, none⟩ = some (.string n.tb) ∧ x.cell? ⟨w.heap.size, 3, none⟩ = some (.slice ao n.kids.length cap) from
              fun x hx => (HT.out.2.1.on ((Below.refl _ _).drew.trans hx)).cells)
            obtain ⟨f9, fa9, hm9, hC9⟩ := HM.out wr.drew (HT.out.2.2.below (Below.refl _ _).drew)
            have HM9 := Lib.hid hm9
            have HC9 := Lib.hid hC9
            clear hm9 hC9 hz HM H4
            refine Order.region_begin (S := Order.Fresh wr.drew) (by kernel_rfl) ?_
            refine Order.reads_any (idx := [0, 2]) (by kernel_rfl) (Order.Fresh.refl _) (fun _ _ _ _ _ h => Order.noPanic_put h) 3 _ _ (by decide +kernel) ?_
            simp only [Order.pick, List.getElem?_toArray, List.getElem?_cons_zero, List.getElem?_cons_succ]
            repeat (first
              | (refine Order.reads_off (by rfl) ?_
                 simp only [Act.put, List.setIfInBounds_toArray, List.set_cons_zero, List.set_cons_succ])
              | (apply Order.reads_on
                 · rfl
                 · intro x hx
                   first
                     | (go_simp; rfl)
                     | (obtain ⟨i0, i1, i2, i3⟩ := HX.out x hx
                        go_simp; rfl)
                 simp only [Act.put, List.setIfInBounds_toArray, List.set_cons_zero, List.set_cons_succ]))
            refine Order.reads_end ?_
            apply Order.acts_any (R := Order.Fresh) Order.Fresh.trans (i := 1)
            · rfl
            · decide +kernel
            · rfl
            refine wp_invoke _ rfl rfl HM9.out ?_
            refine HC9.out.mono ?_
            rintro e y1 ⟨v9, rfl, hv9, hb9, -⟩
            have hn9 := NodeIn.is (size n) (Nat.le_refl _) hv9
            obtain ⟨ao9, cp9, -, rfl, -, -⟩ := hn9.open
            refine ⟨_, rfl, hb9, ?_⟩
            have hw9 : Below w.heap.size w y1 := HT.out.1.drew.trans (hb9.mono HT.out.1.size)
            have HS9 := Lib.hid (And.intro hw9 (HSa.out y1 _ hw9 hn9))
            clear hv9 hb9 hn9 hw9 HX HT HC9 HM9 HSa
            simp only [Act.put, List.setIfInBounds_toArray]
            apply Order.acts_any (R := Order.Fresh) Order.Fresh.trans (i := 3)
            · rfl
            · decide +kernel
            · rfl
            unfold Oper.wp
            go_simp
            refine Calls.mono HS9.out.2 ?_
            rintro e y2 ⟨rfl, hb10⟩
            refine ⟨hb10, ?_⟩
            have H10 := Lib.hid (HS9.out.1.trans (hb10.mono HS9.out.1.size))
            clear hb10 HS9
            refine Order.reads_any (idx := [4]) (by kernel_rfl) (Order.Fresh.refl _) (fun _ _ _ _ _ h => Order.noPanic_put h) 0 _ _ (by decide +kernel) ?_
            simp only [Order.pick, List.getElem?_toArray, List.getElem?_cons_zero, List.getElem?_cons_succ]
            repeat (first
              | (refine Order.reads_off (by rfl) ?_
                 simp only [Act.put, List.setIfInBounds_toArray, List.set_cons_zero, List.set_cons_succ])
              | (apply Order.reads_on
                 · rfl
                 · intro x hx
                   first
                     | (go_simp; rfl)
                     | (fail
                        go_simp; rfl)
                 simp only [Act.put, List.setIfInBounds_toArray, List.set_cons_zero, List.set_cons_succ]))
            refine Order.reads_end ?_
            refine wpAnyH_done (by decide +kernel) ?_ _
            refine NoPanic.normal ?_
            go_wp2_with fail
            go_ret
            exact ⟨rfl, H10.out⟩
end Tr
namespace LawB5Builds
open Tr
theorem walk (n : Nd) (v : Value) (w : World) (hn : IsNode w n v) :
    Calls Try.prog 3 #[v] w fun e x => e = .returned (.bool true) ∧ Below w.heap.size w x := by
  by_cases hz : size n ≤ 300
  · exact builds_near n v w hn hz
  · exact builds_far n v w hn hz
end LawB5Builds
end Go.Proofs.Ytleoknhnglbgoaa
