/-
  The document's Same of two lists of tuples that are alike.
-/
import Derived.Test.YtoeaapomjjclaaaDoorTupsB
import Derived.Test.YtoeaapomjjclaaaDoorOrder
import Derived.Laws.StructEq
namespace Go.Proofs.YtoeaapomjjclaaaDoor
open Go.RowKit Go.Sort
namespace Knot
open Who (bs bs_list bs_size bs_self eq_of_list)
open Bond (L3)

theorem drew_tups {w : World} {v : Value} {l : List (L3 × L3)} (h : IsTups w v l) : IsTups w.drew v l := h.below (Below.refl _ _).drew

set_option maxHeartbeats 4000000 in
set_option maxRecDepth 100000 in
theorem same_any (v u : Value) (l : List (L3 × L3)) (w : World) (hv : IsTups w v l) (hu : IsTups w u l) (hl : l.length ≤ 1000000) :
    Calls Tryd.prog 34 #[v, u] w fun e x => e = .returned (.bool true) ∧ Below w.heap.size w x := by
  obtain ⟨ao, ca, rfl⟩ := hv.len
  obtain ⟨bo, cb, rfl⟩ := hu.len
  have hnn : ((l.length : Int) != (l.length : Int)) = false := by simp
  have H := Lib.hid (And.intro hv hu)
  clear hv hu
  go_enter Tryd.func34, Tryd.ntmps34
  go_wp2
  go_loopw [13] (fun c wr => ∃ (i : Nat), c = .int .i64 i ∧ Below w.heap.size w wr ∧ i ≤ l.length) (fun c _ => l.length - (intOf c).toNat)
  case atStart => exact ⟨0, rfl, Below.refl _ _, by omega⟩
  case round =>
    obtain ⟨i, rfl, hb, hi⟩ := hrel
    by_cases hlt : i < l.length
    · obtain ⟨b, q, hix, -, -, c0, c1, c2, c3, c4, c5⟩ := (drew_tups (H.out.1.below hb)).at hlt
      obtain ⟨b2, q2, hix2, -, -, d0, d1, d2, d3, d4, d5⟩ := (drew_tups (H.out.2.below hb)).at hlt
      generalize bs l[i].1.1 = t0 at *
      generalize bs l[i].1.2.1 = t1 at *
      generalize bs l[i].1.2.2 = t2 at *
      generalize bs l[i].2.1 = t3 at *
      generalize bs l[i].2.2.1 = t4 at *
      generalize bs l[i].2.2.2 = t5 at *
      go_wp2_with fail
      refine Order.region_begin (S := fun x => x = wr.drew) (by kernel_rfl) ?_
      refine Order.reads_any (idx := [0, 1, 2, 3, 4, 5, 6, 7, 8]) (by kernel_rfl) (by rfl) (fun _ _ _ _ _ h => Order.noPanic_put h) 0 _ _ (by kernel_rfl) ?_
      simp only [Order.pick, List.getElem?_toArray, List.getElem?_cons_zero, List.getElem?_cons_succ]
      repeat (first
        | (refine Order.reads_off (by rfl) ?_
           simp only [Act.put, List.setIfInBounds_toArray, List.set_cons_zero, List.set_cons_succ])
        | (apply Order.reads_on
           · rfl
           · intro x hx
             subst hx
             go_simp; rfl
           simp only [Act.put, List.setIfInBounds_toArray, List.set_cons_zero, List.set_cons_succ]))
      refine Order.reads_end ?_
      refine wpAnyH_done (by kernel_rfl) ?_ _
      refine NoPanic.normal ?_
      go_wp2
      go_roundw
      case rel => exact ⟨i + 1, by go_num, hb.drew, by omega⟩
      case measure => simp [intOf]; omega
    · go_wp2
      go_ret
      exact ⟨rfl, hb⟩
end Knot
end Go.Proofs.YtoeaapomjjclaaaDoor
