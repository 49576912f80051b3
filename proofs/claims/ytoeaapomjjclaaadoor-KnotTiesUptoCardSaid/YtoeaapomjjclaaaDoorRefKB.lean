/-
  The document's answers for layer 4 in this program: subjects, tuples and lists of tuples tied.
-/
import Derived.Test.YtoeaapomjjclaaaDoorRefK
import Derived.Test.YtoeaapomjjclaaaDoorOrder
import Derived.Test.YtoeaapomjjclaaaDoorTupsB
namespace Go.Proofs.YtoeaapomjjclaaaDoor
open Go.RowKit
namespace Knot
open Who (bs bs_list bs_size bs_self eq_of_list Held)
open Bond (L3)

theorem textB_size {l : List UInt8} (h : l.length ≤ 4000000) : (bs (textB l)).size ≤ 4000011 := by
  have := textB_len (s := l) (by omega)
  rw [bs_size]
  omega

set_option maxHeartbeats 4000000 in
set_option maxRecDepth 100000 in
theorem rsubject_any (y : L3) (w : World) (hy : Small 4000000 y) :
    Calls Tryd.prog 20 #[agg3 y] w fun e x => e = .returned (.string (bs (three y))) ∧ Below w.heap.size w x := by
  obtain ⟨y0, y1, y2⟩ := hy
  have h0 := fun x => rtext_any (bs y.1) x (by rw [bs_size]; omega)
  have h1 := fun x => rtext_any (bs y.2.1) x (by rw [bs_size]; omega)
  have h2 := fun x => rtext_any (bs y.2.2) x (by rw [bs_size]; omega)
  simp only [bs_list] at h0 h1 h2
  have z0 := textB_size y0
  have z1 := textB_size y1
  have z2 := textB_size y2
  have hc : bs (textB y.1) ++ bs (textB y.2.1) ++ bs (textB y.2.2) = bs (three y) := by rw [three, Who.bs_add, Who.bs_add, List.append_assoc]
  have HC := Lib.hid hc
  clear hc
  have I0 := Held.one3 w 36 (.string (bs y.1)) (.string (bs y.2.1)) (.string (bs y.2.2))
  generalize bs (textB y.1) = t0 at *
  generalize bs (textB y.2.1) = t1 at *
  generalize bs (textB y.2.2) = t2 at *
  have a1 : ∀ W, (Op.stringOp .add t0 t1).run Tryd.prog W = .ok (.string (t0 ++ t1)) W := fun W => run_string_add_sum _ _ _ (by omega)
  have a2 : ∀ W, (Op.stringOp .add (t0 ++ t1) t2).run Tryd.prog W = .ok (.string (t0 ++ t1 ++ t2)) W := fun W => run_string_add_sum _ _ _ (by rw [ByteArray.size_append]; omega)
  have H0 := Lib.hid h0
  have H1 := Lib.hid h1
  have H2 := Lib.hid h2
  have HI := Lib.hid I0
  clear h0 h1 h2 I0
  go_enter Tryd.func20, Tryd.ntmps20
  go_wp2_with fail
  have hcell : ∀ x, Order.Fresh (w.alloc (.cells #[.string (bs y.1), .string (bs y.2.1), .string (bs y.2.2)] 36)).drew x → x.cell? ⟨w.heap.size, 0, none⟩ = some (.string (bs y.1)) ∧ x.cell? ⟨w.heap.size, 1, none⟩ = some (.string (bs y.2.1)) ∧ x.cell? ⟨w.heap.size, 2, none⟩ = some (.string (bs y.2.2)) := fun x hx => by
    have q := (Held.step hx HI.out.drew).2
    simp only [List.forall_mem_cons] at q
    exact ⟨q.1.2.1, q.2.1.2.1, q.2.2.1.2.1⟩
  have HX := Lib.hid hcell
  clear hcell
  refine Order.region_begin (S := Order.Fresh (w.alloc (.cells #[.string (bs y.1), .string (bs y.2.1), .string (bs y.2.2)] 36)).drew) (by kernel_rfl) ?_
  refine Order.reads_any (idx := [0, 1, 3, 4, 7, 8]) (by kernel_rfl) (Order.Fresh.refl _) (fun _ _ _ _ _ h => Order.noPanic_put h) 6 _ _ (by decide +kernel) ?_
  simp only [Order.pick, List.getElem?_toArray, List.getElem?_cons_zero, List.getElem?_cons_succ]
  repeat (first
    | (refine Order.reads_off (by rfl) ?_
       simp only [Act.put, List.setIfInBounds_toArray, List.set_cons_zero, List.set_cons_succ])
    | (apply Order.reads_on
       · rfl
       · intro x hx
         first
           | (go_simp; rfl)
           | (have i0 := HX.out x hx
              go_simp; rfl)
       simp only [Act.put, List.setIfInBounds_toArray, List.set_cons_zero, List.set_cons_succ]))
  refine Order.reads_end ?_
  apply Order.acts_any (R := Order.Fresh) Order.Fresh.trans (i := 2)
  · rfl
  · decide +kernel
  · rfl
  unfold Oper.wp
  go_simp
  refine Calls.mono (H0.out _) ?_
  rintro e w1 ⟨rfl, b1⟩
  refine ⟨b1, ?_⟩
  apply Order.acts_any (R := Order.Fresh) Order.Fresh.trans (i := 5)
  · rfl
  · decide +kernel
  · rfl
  unfold Oper.wp
  go_simp
  refine Calls.mono (H1.out _) ?_
  rintro e w2 ⟨rfl, b2⟩
  refine ⟨b2, ?_⟩
  refine Order.reads_any (idx := [6]) (by kernel_rfl) (Order.Fresh.refl _) (fun _ _ _ _ _ h => Order.noPanic_put h) 3 _ _ (by decide +kernel) ?_
  simp only [Order.pick, List.getElem?_toArray, List.getElem?_cons_zero, List.getElem?_cons_succ]
  repeat (first
    | (refine Order.reads_off (by rfl) ?_
       simp only [Act.put, List.setIfInBounds_toArray, List.set_cons_zero, List.set_cons_succ])
    | (apply Order.reads_on
       · rfl
       · intro x hx
         first
           | (go_simp; rfl)
           | (fail
              go_simp; rfl)
       simp only [Act.put, List.setIfInBounds_toArray, List.set_cons_zero, List.set_cons_succ]))
  refine Order.reads_end ?_
  apply Order.acts_any (R := Order.Fresh) Order.Fresh.trans (i := 9)
  · rfl
  · decide +kernel
  · rfl
  unfold Oper.wp
  go_simp
  refine Calls.mono (H2.out _) ?_
  rintro e w3 ⟨rfl, b3⟩
  refine ⟨b3, ?_⟩
  refine Order.reads_any (idx := [10, 11]) (by kernel_rfl) (Order.Fresh.refl _) (fun _ _ _ _ _ h => Order.noPanic_put h) 0 _ _ (by decide +kernel) ?_
  simp only [Order.pick, List.getElem?_toArray, List.getElem?_cons_zero, List.getElem?_cons_succ]
  repeat (first
    | (refine Order.reads_off (by rfl) ?_
       simp only [Act.put, List.setIfInBounds_toArray, List.set_cons_zero, List.set_cons_succ])
    | (apply Order.reads_on
       · rfl
       · intro x hx
         first
           | (go_simp; rfl)
           | (fail
              go_simp; rfl)
       simp only [Act.put, List.setIfInBounds_toArray, List.set_cons_zero, List.set_cons_succ]))
  refine Order.reads_end ?_
  refine wpAnyH_done (by decide +kernel) ?_ _
  refine NoPanic.normal ?_
  have bz := (Held.step b3 (Held.step b2 (Held.step b1 HI.out.drew))).below
  clear b1 b2 b3
  go_wp2
  go_ret
  exact ⟨by rw [← HC.out]; rfl, bz⟩

theorem three_size {y : L3} (hy : Small 4000000 y) : (bs (three y)).size ≤ 12000033 := by
  have := three_len (y := y) (by have := hy.1; omega) (by have := hy.2.1; omega) (by have := hy.2.2; omega)
  have h1 := hy.1
  have h2 := hy.2.1
  have h3 := hy.2.2
  rw [bs_size]
  omega

set_option maxHeartbeats 4000000 in
set_option maxRecDepth 100000 in
theorem rtuple_any (p : L3 × L3) (w : World) (hp : Small 4000000 p.1) (hq : Small 4000000 p.2) :
    Calls Tryd.prog 21 #[agg6 p] w fun e x => e = .returned (.string (bs (tupleB p))) ∧ Below w.heap.size w x := by
  obtain ⟨y0, y1, y2⟩ := hp
  have h0 := fun x => rtext_any (bs p.1.1) x (by rw [bs_size]; omega)
  have h1 := fun x => rtext_any (bs p.1.2.1) x (by rw [bs_size]; omega)
  have h2 := fun x => rtext_any (bs p.1.2.2) x (by rw [bs_size]; omega)
  simp only [bs_list] at h0 h1 h2
  have h3 := fun x => rsubject_any p.2 x hq
  have z0 := textB_size y0
  have z1 := textB_size y1
  have z2 := textB_size y2
  have z3 := three_size hq
  have hc : bs (textB p.1.1) ++ bs (textB p.1.2.1) ++ bs (textB p.1.2.2) ++ bs (three p.2) = bs (tupleB p) := by rw [tupleB, three, Who.bs_add, Who.bs_add, Who.bs_add, three]; simp
  have HC := Lib.hid hc
  clear hc
  have I0 : Held w [(⟨w.heap.size, 0, none⟩, .string (bs p.1.1)), (⟨w.heap.size, 1, none⟩, .string (bs p.1.2.1)), (⟨w.heap.size, 2, none⟩, .string (bs p.1.2.2)), (⟨w.heap.size, 3, none⟩, .string (bs p.2.1)), (⟨w.heap.size, 4, none⟩, .string (bs p.2.2.1)), (⟨w.heap.size, 5, none⟩, .string (bs p.2.2.2))] (w.alloc (.cells (cells6 p).toArray 38)) := by
    refine ⟨((Below.refl _ _).alloc (Nat.le_refl _) _), ?_⟩
    simp only [List.forall_mem_cons, cells6]
    simp
  generalize bs (textB p.1.1) = t0 at *
  generalize bs (textB p.1.2.1) = t1 at *
  generalize bs (textB p.1.2.2) = t2 at *
  generalize bs (three p.2) = t3 at *
  have a1 : ∀ W, (Op.stringOp .add t0 t1).run Tryd.prog W = .ok (.string (t0 ++ t1)) W := fun W => run_string_add_sum _ _ _ (by omega)
  have a2 : ∀ W, (Op.stringOp .add (t0 ++ t1) t2).run Tryd.prog W = .ok (.string (t0 ++ t1 ++ t2)) W := fun W => run_string_add_sum _ _ _ (by rw [ByteArray.size_append]; omega)
  have a3 : ∀ W, (Op.stringOp .add (t0 ++ t1 ++ t2) t3).run Tryd.prog W = .ok (.string (t0 ++ t1 ++ t2 ++ t3)) W := fun W => run_string_add_sum _ _ _ (by rw [ByteArray.size_append, ByteArray.size_append]; omega)
  have H0 := Lib.hid h0
  have H1 := Lib.hid h1
  have H2 := Lib.hid h2
  have H3 := Lib.hid h3
  have HI := Lib.hid I0
  clear h0 h1 h2 h3 I0
  go_enter Tryd.func21, Tryd.ntmps21
  go_wp2_with fail
  have hcell : ∀ x, Order.Fresh (w.alloc (.cells (cells6 p).toArray 38)).drew x → x.cell? ⟨w.heap.size, 0, none⟩ = some (.string (bs p.1.1)) ∧ x.cell? ⟨w.heap.size, 1, none⟩ = some (.string (bs p.1.2.1)) ∧ x.cell? ⟨w.heap.size, 2, none⟩ = some (.string (bs p.1.2.2)) ∧ x.cell? ⟨w.heap.size, 3, none⟩ = some (.string (bs p.2.1)) ∧ x.cell? ⟨w.heap.size, 4, none⟩ = some (.string (bs p.2.2.1)) ∧ x.cell? ⟨w.heap.size, 5, none⟩ = some (.string (bs p.2.2.2)) := fun x hx => by
    have q := (Held.step hx HI.out.drew).2
    simp only [List.forall_mem_cons] at q
    exact ⟨q.1.2.1, q.2.1.2.1, q.2.2.1.2.1, q.2.2.2.1.2.1, q.2.2.2.2.1.2.1, q.2.2.2.2.2.1.2.1⟩
  have HX := Lib.hid hcell
  clear hcell
  refine Order.region_begin (S := Order.Fresh (w.alloc (.cells (cells6 p).toArray 38)).drew) (by kernel_rfl) ?_
  refine Order.reads_any (idx := [0, 1, 3, 4, 7, 8, 11, 12]) (by kernel_rfl) (Order.Fresh.refl _) (fun _ _ _ _ _ h => Order.noPanic_put h) 8 _ _ (by decide +kernel) ?_
  simp only [Order.pick, List.getElem?_toArray, List.getElem?_cons_zero, List.getElem?_cons_succ]
  repeat (first
    | (refine Order.reads_off (by rfl) ?_
       simp only [Act.put, List.setIfInBounds_toArray, List.set_cons_zero, List.set_cons_succ])
    | (apply Order.reads_on
       · rfl
       · intro x hx
         first
           | (go_simp; rfl)
           | (have i0 := HX.out x hx
              go_simp; rfl)
       simp only [Act.put, List.setIfInBounds_toArray, List.set_cons_zero, List.set_cons_succ]))
  refine Order.reads_end ?_
  apply Order.acts_any (R := Order.Fresh) Order.Fresh.trans (i := 2)
  · rfl
  · decide +kernel
  · rfl
  unfold Oper.wp
  go_simp
  refine Calls.mono (H0.out _) ?_
  rintro e w1 ⟨rfl, b1⟩
  refine ⟨b1, ?_⟩
  apply Order.acts_any (R := Order.Fresh) Order.Fresh.trans (i := 5)
  · rfl
  · decide +kernel
  · rfl
  unfold Oper.wp
  go_simp
  refine Calls.mono (H1.out _) ?_
  rintro e w2 ⟨rfl, b2⟩
  refine ⟨b2, ?_⟩
  refine Order.reads_any (idx := [6]) (by kernel_rfl) (Order.Fresh.refl _) (fun _ _ _ _ _ h => Order.noPanic_put h) 5 _ _ (by decide +kernel) ?_
  simp only [Order.pick, List.getElem?_toArray, List.getElem?_cons_zero, List.getElem?_cons_succ]
  repeat (first
    | (refine Order.reads_off (by rfl) ?_
       simp only [Act.put, List.setIfInBounds_toArray, List.set_cons_zero, List.set_cons_succ])
    | (apply Order.reads_on
       · rfl
       · intro x hx
         first
           | (go_simp; rfl)
           | (fail
              go_simp; rfl)
       simp only [Act.put, List.setIfInBounds_toArray, List.set_cons_zero, List.set_cons_succ]))
  refine Order.reads_end ?_
  apply Order.acts_any (R := Order.Fresh) Order.Fresh.trans (i := 9)
  · rfl
  · decide +kernel
  · rfl
  unfold Oper.wp
  go_simp
  refine Calls.mono (H2.out _) ?_
  rintro e w3 ⟨rfl, b3⟩
  refine ⟨b3, ?_⟩
  refine Order.reads_any (idx := [10]) (by kernel_rfl) (Order.Fresh.refl _) (fun _ _ _ _ _ h => Order.noPanic_put h) 3 _ _ (by decide +kernel) ?_
  simp only [Order.pick, List.getElem?_toArray, List.getElem?_cons_zero, List.getElem?_cons_succ]
  repeat (first
    | (refine Order.reads_off (by rfl) ?_
       simp only [Act.put, List.setIfInBounds_toArray, List.set_cons_zero, List.set_cons_succ])
    | (apply Order.reads_on
       · rfl
       · intro x hx
         first
           | (go_simp; rfl)
           | (fail
              go_simp; rfl)
       simp only [Act.put, List.setIfInBounds_toArray, List.set_cons_zero, List.set_cons_succ]))
  refine Order.reads_end ?_
  apply Order.acts_any (R := Order.Fresh) Order.Fresh.trans (i := 13)
  · rfl
  · decide +kernel
  · rfl
  unfold Oper.wp
  go_simp
  refine Calls.mono (H3.out _) ?_
  rintro e w4 ⟨rfl, b4⟩
  refine ⟨b4, ?_⟩
  refine Order.reads_any (idx := [14, 15]) (by kernel_rfl) (Order.Fresh.refl _) (fun _ _ _ _ _ h => Order.noPanic_put h) 0 _ _ (by decide +kernel) ?_
  simp only [Order.pick, List.getElem?_toArray, List.getElem?_cons_zero, List.getElem?_cons_succ]
  repeat (first
    | (refine Order.reads_off (by rfl) ?_
       simp only [Act.put, List.setIfInBounds_toArray, List.set_cons_zero, List.set_cons_succ])
    | (apply Order.reads_on
       · rfl
       · intro x hx
         first
           | (go_simp; rfl)
           | (fail
              go_simp; rfl)
       simp only [Act.put, List.setIfInBounds_toArray, List.set_cons_zero, List.set_cons_succ]))
  refine Order.reads_end ?_
  refine wpAnyH_done (by decide +kernel) ?_ _
  refine NoPanic.normal ?_
  have bz := (Held.step b4 (Held.step b3 (Held.step b2 (Held.step b1 HI.out.drew)))).below
  clear b1 b2 b3 b4
  go_wp2
  go_ret
  exact ⟨by rw [← HC.out]; rfl, bz⟩

set_option maxHeartbeats 4000000 in
set_option maxRecDepth 100000 in
theorem rtuples_any (v : Value) (l : List (L3 × L3)) (w : World) (hv : IsTups w v l) (hl : l.length ≤ 1000000) (hs : SmallAll 4000000 l) (hz : (tuplesB l).length ≤ 60000000) :
    Calls Tryd.prog 17 #[v] w fun e x => e = .returned (.string (bs (tuplesB l))) ∧ Below w.heap.size w x := by
  obtain ⟨ao, cc, rfl⟩ := hv.len
  have hlen : (tuplesB l).length = (number l.length).length + (l.flatMap tupleB).length := by rw [tuplesB, List.length_append]
  have HN := Lib.hid (rnumber_any l.length w (by omega))
  have HT := Lib.hid (fun (p : L3 × L3) (hp : p ∈ l) (x : World) => rtuple_any p x (hs p hp).1 (hs p hp).2)
  have HV := Lib.hid hv
  clear hv hs
  go_enter Tryd.func17, Tryd.ntmps17
  go_wp2_with fail
  refine HN.out.mono ?_
  rintro e w1 ⟨rfl, b1⟩
  have B1 := Lib.hid b1
  clear b1 HN
  go_wp2
  go_loopw [3, 10] (fun a c wr => ∃ (i : Nat), c = .int .i64 i ∧ a = .string (bs (number l.length ++ (l.take i).flatMap tupleB)) ∧ Below w.heap.size w wr ∧ i ≤ l.length) (fun _ c _ => l.length - (intOf c).toNat)
  case atStart => exact ⟨0, rfl, by simp, B1.out, by omega⟩
  case round =>
    obtain ⟨i, rfl, rfl, hb, hi⟩ := hrel
    by_cases hlt : i < l.length
    · obtain ⟨b, q, hix, -, -, c0, c1, c2, c3, c4, c5⟩ := (HV.out.below hb).at hlt
      have hfl := flat_len l i hlt
      have hz1 : (bs (number l.length ++ (l.take i).flatMap tupleB)).size ≤ 60000000 := by rw [bs_size, List.length_append]; omega
      have hz2 : (bs (tupleB l[i])).size ≤ 60000000 := by rw [bs_size]; omega
      have hcat : bs (number l.length ++ (l.take i).flatMap tupleB) ++ bs (tupleB l[i]) = bs (number l.length ++ (l.take (i + 1)).flatMap tupleB) := by rw [Who.bs_add, flat_take l i hlt, List.append_assoc]
      have HC := Lib.hid hcat
      have C := Lib.hid (HT.out l[i] (List.getElem_mem _) wr)
      clear hcat
      generalize bs (number l.length ++ (l.take i).flatMap tupleB) = sa at *
      generalize bs (tupleB l[i]) = sb at *
      go_wp2_with fail
      refine C.out.mono ?_
      rintro e w2 ⟨rfl, b2⟩
      have b3 := hb.trans (b2.mono hb.size)
      clear b2 c0 c1 c2 c3 c4 c5 hix C
      go_wp2
      go_roundw
      case rel => exact ⟨i + 1, by go_num, by rw [HC.out], b3, by omega⟩
      case measure => simp [intOf]; omega
    · have hie : i = l.length := by omega
      subst hie
      go_wp2
      go_ret
      exact ⟨by rw [List.take_length]; rfl, hb⟩
end Knot
end Go.Proofs.YtoeaapomjjclaaaDoor
