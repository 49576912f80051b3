/-
  Layer 4 (knot): subjects and tuples taken.
-/
import Derived.Test.YtoeaapomjjclaaaDoorInC
import Derived.Test.YtoeaapomjjclaaaDoorBondA
namespace Go.Proofs.YtoeaapomjjclaaaDoor
open Go.RowKit Go.Sort
namespace Knot
open Who (bs bs_list bs_size bs_self eq_of_list)
open Bond (L3 tupV)

/-- What a block's cells hold. -/
theorem at3 {w : World} {R : Nat} {T : TypeId} {a b c : Value} (h : w.heap[R]? = some (.cells #[a, b, c] T (0, 0))) :
    (w.cell? ⟨R, 0, none⟩ = some a ∧ w.frozen? ⟨R, 0, none⟩ = false) ∧ (w.cell? ⟨R, 1, none⟩ = some b ∧ w.frozen? ⟨R, 1, none⟩ = false) ∧ (w.cell? ⟨R, 2, none⟩ = some c ∧ w.frozen? ⟨R, 2, none⟩ = false) :=
  ⟨⟨by rw [Lib.cell_of_heap h]; rfl, Lib.frozen_of_heap h 0⟩, ⟨by rw [Lib.cell_of_heap h]; rfl, Lib.frozen_of_heap h 1⟩, ⟨by rw [Lib.cell_of_heap h]; rfl, Lib.frozen_of_heap h 2⟩⟩

set_option maxHeartbeats 2000000 in
theorem sub_none (I : Nat) (f : Bool) (w : World) (h : Inn w I ⟨#[]⟩ f) :
    Calls Tryd.prog 42 #[iptr I] w fun e x => e = .returned (.agg #[.string ⟨#[]⟩, .string ⟨#[]⟩, .string ⟨#[]⟩]) ∧ Inn x I ⟨#[]⟩ true ∧ Turns (At I) w x := by
  have HT := Lib.hid (fun f m W => text_none I f m W)
  have hI := h.lt
  have hb0 : Below w.heap.size w (w.alloc (.cells #[.string ⟨#[]⟩, .string ⟨#[]⟩, .string ⟨#[]⟩] 36)) := (Below.refl _ _).alloc (Nat.le_refl _) _
  have h0 := Lib.hid (h.below hb0)
  have T0 := Lib.hid (Turns.of_below (F := At I) hb0)
  have hR : (w.alloc (.cells #[.string ⟨#[]⟩, .string ⟨#[]⟩, .string ⟨#[]⟩] 36)).heap[w.heap.size]? = _ := heap_alloc_new w _
  have HR := Lib.hid hR
  clear h hb0 hR
  go_enter Tryd.func42, Tryd.ntmps42
  go_wp2_with fail
  refine (HT.out _ _ _ h0.out).mono ?_
  rintro e w1 ⟨rfl, h1, t1⟩
  have H1 := Lib.hid (And.intro h1 (And.intro (T0.out.trans t1 fun _ _ h => h) (t1.heap HR.out (by omega))))
  clear h1 t1 HR T0
  go_wp2_with fail
  refine (HT.out _ _ _ H1.out.1).mono ?_
  rintro e w2 ⟨rfl, h2, t2⟩
  have H2 := Lib.hid (And.intro h2 (And.intro (H1.out.2.1.trans t2 fun _ _ h => h) (t2.heap H1.out.2.2 (by omega))))
  clear h2 t2 H1
  go_wp2_with fail
  refine (HT.out _ _ _ H2.out.1).mono ?_
  rintro e w3 ⟨rfl, h3, t3⟩
  have hr := t3.heap H2.out.2.2 (by omega)
  obtain ⟨⟨k0, g0⟩, ⟨k1, g1⟩, ⟨k2, g2⟩⟩ := at3 hr
  have H3 := Lib.hid (And.intro h3 (H2.out.2.1.trans t3 fun _ _ h => h))
  clear h3 t3 H2 hr
  go_wp2
  refine bodyPost_ret (v := .agg #[.string ⟨#[]⟩, .string ⟨#[]⟩, .string ⟨#[]⟩]) (by simp [results, Tryd.results42, go_sem, k0, k1, k2]) rfl ?_
  exact ⟨rfl, ((H3.out.1.set_other (by simp; omega) _).set_other (by simp; omega) _).set_other (by simp; omega) _, ((H3.out.2.setNew (by simp) _).setNew (by simp) _).setNew (by simp) _⟩

set_option maxHeartbeats 2000000 in
theorem sub_goes (I : Nat) (s : ByteArray) (y : L3) (z : List UInt8) (f : Bool) (w : World) (h : Inn w I s f) (hs : s.data.toList = three y ++ z) (l0 : y.1.length ≤ 96) (l1 : y.2.1.length ≤ 96) (l2 : y.2.2.length ≤ 96) :
    Calls Tryd.prog 42 #[iptr I] w fun e x => e = .returned (.agg #[.string (bs y.1), .string (bs y.2.1), .string (bs y.2.2)]) ∧ Inn x I (bs z) f ∧ Turns (At I) w x := by
  have T1 := Lib.hid (fun W h => text_goes I s (bs y.1) (textB y.2.1 ++ (textB y.2.2 ++ z)) f 96 W h (by rw [hs, three, bs_list]; simp) (by rw [bs_size]; omega) (by rw [bs_size]; omega))
  have T2 := Lib.hid (fun W h => text_goes I (bs (textB y.2.1 ++ (textB y.2.2 ++ z))) (bs y.2.1) (textB y.2.2 ++ z) f 96 W h (by rw [bs_list, bs_list]) (by rw [bs_size]; omega) (by rw [bs_size]; omega))
  have T3 := Lib.hid (fun W h => text_goes I (bs (textB y.2.2 ++ z)) (bs y.2.2) z f 96 W h (by rw [bs_list, bs_list]) (by rw [bs_size]; omega) (by rw [bs_size]; omega))
  have hI := h.lt
  have hb0 : Below w.heap.size w (w.alloc (.cells #[.string ⟨#[]⟩, .string ⟨#[]⟩, .string ⟨#[]⟩] 36)) := (Below.refl _ _).alloc (Nat.le_refl _) _
  have h0 := Lib.hid (h.below hb0)
  have T0 := Lib.hid (Turns.of_below (F := At I) hb0)
  have hR : (w.alloc (.cells #[.string ⟨#[]⟩, .string ⟨#[]⟩, .string ⟨#[]⟩] 36)).heap[w.heap.size]? = _ := heap_alloc_new w _
  have HR := Lib.hid hR
  clear h hb0 hR hs l0 l1 l2
  go_enter Tryd.func42, Tryd.ntmps42
  go_wp2_with fail
  refine (T1.out _ h0.out).mono ?_
  rintro e w1 ⟨rfl, h1, t1⟩
  have H1 := Lib.hid (And.intro h1 (And.intro (T0.out.trans t1 fun _ _ h => h) (t1.heap HR.out (by omega))))
  clear h1 t1 HR T0
  go_wp2_with fail
  refine (T2.out _ H1.out.1).mono ?_
  rintro e w2 ⟨rfl, h2, t2⟩
  have H2 := Lib.hid (And.intro h2 (And.intro (H1.out.2.1.trans t2 fun _ _ h => h) (t2.heap H1.out.2.2 (by omega))))
  clear h2 t2 H1
  go_wp2_with fail
  refine (T3.out _ H2.out.1).mono ?_
  rintro e w3 ⟨rfl, h3, t3⟩
  have hr := t3.heap H2.out.2.2 (by omega)
  obtain ⟨⟨k0, g0⟩, ⟨k1, g1⟩, ⟨k2, g2⟩⟩ := at3 hr
  have H3 := Lib.hid (And.intro h3 (H2.out.2.1.trans t3 fun _ _ h => h))
  clear h3 t3 H2 hr
  go_wp2
  refine bodyPost_ret (v := .agg #[.string (bs y.1), .string (bs y.2.1), .string (bs y.2.2)]) (by simp [results, Tryd.results42, go_sem, k0, k1, k2]) rfl ?_
  exact ⟨rfl, ((H3.out.1.set_other (by simp; omega) _).set_other (by simp; omega) _).set_other (by simp; omega) _, ((H3.out.2.setNew (by simp) _).setNew (by simp) _).setNew (by simp) _⟩

set_option maxHeartbeats 4000000 in
theorem subject_none (I : Nat) (f : Bool) (w : World) (h : Inn w I ⟨#[]⟩ f) :
    Calls Tryd.prog 27 #[iptr I] w fun e x => e = .returned (.agg #[.string ⟨#[]⟩, .string ⟨#[]⟩, .string ⟨#[]⟩]) ∧ Inn x I ⟨#[]⟩ true ∧ Turns (At I) w x := by
  have HT := Lib.hid (fun f W => sub_none I f W)
  have HF := Lib.hid (fun W => fail_any I ⟨#[]⟩ true W)
  have hI := h.lt
  have hb0 : Below w.heap.size w (w.alloc (.cells #[.string ⟨#[]⟩, .string ⟨#[]⟩, .string ⟨#[]⟩] 36)) := (Below.refl _ _).alloc (Nat.le_refl _) _
  have h0 := Lib.hid (h.below hb0)
  have T0 := Lib.hid (Turns.of_below (F := At I) hb0)
  have hR : (w.alloc (.cells #[.string ⟨#[]⟩, .string ⟨#[]⟩, .string ⟨#[]⟩] 36)).heap[w.heap.size]? = _ := heap_alloc_new w _
  have HR := Lib.hid hR
  clear h hb0 hR
  go_enter Tryd.func27, Tryd.ntmps27
  go_wp2_with fail
  refine (HT.out _ _ h0.out).mono ?_
  rintro e w1 ⟨rfl, h1, t1⟩
  have b1 : Below w1.heap.size w1 (w1.alloc (.cells #[.string ⟨#[]⟩, .string ⟨#[]⟩, .string ⟨#[]⟩] 36)) := (Below.refl _ _).alloc (Nat.le_refl _) _
  have h2 := h1.below b1
  have l1 := h1.lt
  obtain ⟨-, ⟨c1, f1⟩⟩ := h1.cells
  have H1 := Lib.hid (And.intro h2 (And.intro ((T0.out.trans t1 fun _ _ h => h).then_below b1) ((b1.block _ (by have := t1.size; simp at this; omega)).trans (t1.heap HR.out (by omega)))))
  clear h1 t1 HR T0 h2 b1
  go_wp2_with fail
  refine (HF.out _ H1.out.1).mono ?_
  rintro e w2 ⟨rfl, h3, t3⟩
  have hr := t3.heap H1.out.2.2 (by omega)
  obtain ⟨⟨k0, g0⟩, ⟨k1, g1⟩, ⟨k2, g2⟩⟩ := at3 hr
  have H3 := Lib.hid (And.intro h3 (H1.out.2.1.trans t3 fun _ _ h => h))
  clear h3 t3 H1 hr
  go_wp2
  refine bodyPost_ret (v := .agg #[.string ⟨#[]⟩, .string ⟨#[]⟩, .string ⟨#[]⟩]) (by simp [results, Tryd.results27, go_sem, k0, k1, k2]) rfl ?_
  exact ⟨rfl, ((H3.out.1.set_other (by simp; omega) _).set_other (by simp; omega) _).set_other (by simp; omega) _, ((H3.out.2.setNew (by simp) _).setNew (by simp) _).setNew (by simp) _⟩
end Knot
end Go.Proofs.YtoeaapomjjclaaaDoor
