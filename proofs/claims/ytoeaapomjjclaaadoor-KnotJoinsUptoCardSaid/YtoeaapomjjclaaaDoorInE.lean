/-
  Layer 4 (knot): good subjects and tuples taken.
-/
import Derived.Test.YtoeaapomjjclaaaDoorInD
namespace Go.Proofs.YtoeaapomjjclaaaDoor
open Go.RowKit Go.Sort
namespace Knot
open Who (bs bs_list bs_size bs_self eq_of_list)
open Bond (L3 tupV)

set_option maxHeartbeats 4000000 in
theorem subject_goes (I : Nat) (s : ByteArray) (y : L3) (z : List UInt8) (w : World) (h : Inn w I s false) (hs : s.data.toList = three y ++ z) (l0 : y.1.length ≤ 96) (l1 : y.2.1.length ≤ 96) (l2 : y.2.2.length ≤ 96) (hg : Who.subjB y.1 y.2.1 y.2.2 = true) :
    Calls Tryd.prog 27 #[iptr I] w fun e x => e = .returned (.agg #[.string (bs y.1), .string (bs y.2.1), .string (bs y.2.2)]) ∧ Inn x I (bs z) false ∧ Turns (At I) w x := by
  have HT := Lib.hid (fun W h => sub_goes I s y z false W h hs l0 l1 l2)
  have hsj := fun W => Who.subj_free (bs y.1) (bs y.2.1) (bs y.2.2) W
  simp only [bs_list, hg] at hsj
  have HS := Lib.hid hsj
  have hI := h.lt
  have hb0 : Below w.heap.size w (w.alloc (.cells #[.string ⟨#[]⟩, .string ⟨#[]⟩, .string ⟨#[]⟩] 36)) := (Below.refl _ _).alloc (Nat.le_refl _) _
  have h0 := Lib.hid (h.below hb0)
  have T0 := Lib.hid (Turns.of_below (F := At I) hb0)
  have hR : (w.alloc (.cells #[.string ⟨#[]⟩, .string ⟨#[]⟩, .string ⟨#[]⟩] 36)).heap[w.heap.size]? = _ := heap_alloc_new w _
  have HR := Lib.hid hR
  clear h hb0 hR hs l0 l1 l2 hg hsj
  generalize bs y.1 = a at *
  generalize bs y.2.1 = b at *
  generalize bs y.2.2 = c at *
  go_enter Tryd.func27, Tryd.ntmps27
  go_wp2_with fail
  refine (HT.out _ h0.out).mono ?_
  rintro e w1 ⟨rfl, h1, t1⟩
  have b1 : Below w1.heap.size w1 (w1.alloc (.cells #[.string a, .string b, .string c] 36)) := (Below.refl _ _).alloc (Nat.le_refl _) _
  have hS : (w1.alloc (.cells #[.string a, .string b, .string c] 36)).heap[w1.heap.size]? = _ := heap_alloc_new w1 _
  have h2 := h1.below b1
  have l1 := h1.lt
  have z1 : w.heap.size < w1.heap.size := by have := t1.size; simp at this; omega
  obtain ⟨-, ⟨c1, f1⟩⟩ := h1.cells
  have H1 := Lib.hid (And.intro h2 (And.intro ((T0.out.trans t1 fun _ _ h => h).then_below b1) (And.intro ((b1.block _ z1).trans (t1.heap HR.out (by omega))) hS)))
  clear h1 t1 HR T0 h2 b1 hS
  go_wp2_with fail
  refine (HS.out _).mono ?_
  rintro e w2 ⟨rfl, b2⟩
  have h3 := H1.out.1.below b2
  have hr := (b2.block _ (by simp; omega)).trans H1.out.2.2.1
  have hS := (b2.block w1.heap.size (by simp)).trans H1.out.2.2.2
  obtain ⟨⟨k0, g0⟩, ⟨k1, g1⟩, ⟨k2, g2⟩⟩ := at3 hr
  obtain ⟨⟨s0, -⟩, ⟨s1, -⟩, ⟨s2, -⟩⟩ := at3 hS
  have H3 := Lib.hid (And.intro h3 (H1.out.2.1.then_below b2))
  clear h3 b2 H1 hr hS
  go_wp2
  refine bodyPost_ret (v := .agg #[.string a, .string b, .string c]) (by simp [results, Tryd.results27, go_sem, k0, k1, k2]) rfl ?_
  exact ⟨rfl, ((H3.out.1.set_other (by simp; omega) _).set_other (by simp; omega) _).set_other (by simp; omega) _, ((H3.out.2.setNew (by simp) _).setNew (by simp) _).setNew (by simp) _⟩

theorem at6 {w : World} {R : Nat} {T : TypeId} {a b c d e f : Value} (h : w.heap[R]? = some (.cells #[a, b, c, d, e, f] T (0, 0))) :
    (w.cell? ⟨R, 0, none⟩ = some a ∧ w.frozen? ⟨R, 0, none⟩ = false) ∧ (w.cell? ⟨R, 1, none⟩ = some b ∧ w.frozen? ⟨R, 1, none⟩ = false) ∧ (w.cell? ⟨R, 2, none⟩ = some c ∧ w.frozen? ⟨R, 2, none⟩ = false) ∧
    (w.cell? ⟨R, 3, none⟩ = some d ∧ w.frozen? ⟨R, 3, none⟩ = false) ∧ (w.cell? ⟨R, 4, none⟩ = some e ∧ w.frozen? ⟨R, 4, none⟩ = false) ∧ (w.cell? ⟨R, 5, none⟩ = some f ∧ w.frozen? ⟨R, 5, none⟩ = false) :=
  ⟨⟨by rw [Lib.cell_of_heap h]; rfl, Lib.frozen_of_heap h 0⟩, ⟨by rw [Lib.cell_of_heap h]; rfl, Lib.frozen_of_heap h 1⟩, ⟨by rw [Lib.cell_of_heap h]; rfl, Lib.frozen_of_heap h 2⟩,
   ⟨by rw [Lib.cell_of_heap h]; rfl, Lib.frozen_of_heap h 3⟩, ⟨by rw [Lib.cell_of_heap h]; rfl, Lib.frozen_of_heap h 4⟩, ⟨by rw [Lib.cell_of_heap h]; rfl, Lib.frozen_of_heap h 5⟩⟩

/-- A zero tuple's cells. -/
abbrev zero6 : Array Value := #[.string ⟨#[]⟩, .string ⟨#[]⟩, .string ⟨#[]⟩, .string ⟨#[]⟩, .string ⟨#[]⟩, .string ⟨#[]⟩]
set_option maxHeartbeats 4000000 in
theorem tuple_none (I : Nat) (f : Bool) (w : World) (h : Inn w I ⟨#[]⟩ f) :
    Calls Tryd.prog 28 #[iptr I] w fun e x => e = .returned (.agg zero6) ∧ Inn x I ⟨#[]⟩ true ∧ Turns (At I) w x := by
  have HX := Lib.hid (fun f W => text_none I f 96 W)
  have HT := Lib.hid (fun f W => sub_none I f W)
  have HF := Lib.hid (fun W => fail_any I ⟨#[]⟩ true W)
  have hI := h.lt
  have hb0 : Below w.heap.size w (w.alloc (.cells zero6 38)) := (Below.refl _ _).alloc (Nat.le_refl _) _
  have h0 := Lib.hid (h.below hb0)
  have T0 := Lib.hid (Turns.of_below (F := At I) hb0)
  have hR : (w.alloc (.cells zero6 38)).heap[w.heap.size]? = _ := heap_alloc_new w _
  have HR := Lib.hid hR
  clear h hb0 hR
  go_enter Tryd.func28, Tryd.ntmps28
  go_wp2_with fail
  refine (HX.out _ _ h0.out).mono ?_
  rintro e w1 ⟨rfl, h1, t1⟩
  have H1 := Lib.hid (And.intro h1 (And.intro (T0.out.trans t1 fun _ _ h => h) (t1.heap HR.out (by omega))))
  clear h1 t1 HR T0
  go_wp2_with fail
  refine (HX.out _ _ H1.out.1).mono ?_
  rintro e w2 ⟨rfl, h2, t2⟩
  have H2 := Lib.hid (And.intro h2 (And.intro (H1.out.2.1.trans t2 fun _ _ h => h) (t2.heap H1.out.2.2 (by omega))))
  clear h2 t2 H1
  go_wp2_with fail
  refine (HX.out _ _ H2.out.1).mono ?_
  rintro e w3 ⟨rfl, h3, t3⟩
  have H3 := Lib.hid (And.intro h3 (And.intro (H2.out.2.1.trans t3 fun _ _ h => h) (t3.heap H2.out.2.2 (by omega))))
  clear h3 t3 H2
  go_wp2_with fail
  refine (HT.out _ _ H3.out.1).mono ?_
  rintro e w4 ⟨rfl, h4, t4⟩
  have b1 : Below w4.heap.size w4 (w4.alloc (.cells zero6 38)) := (Below.refl _ _).alloc (Nat.le_refl _) _
  have h5 := h4.below b1
  have l1 := h4.lt
  have t5 := H3.out.2.1.trans t4 fun _ _ h => h
  have hr4 := t4.heap H3.out.2.2 (by omega)
  have z1 : w.heap.size < w4.heap.size := (Array.getElem?_eq_some_iff.1 hr4).1
  obtain ⟨-, ⟨c1, f1⟩⟩ := h4.cells
  have H4 := Lib.hid (And.intro h5 (And.intro (t5.then_below b1) ((b1.block _ z1).trans hr4)))
  clear h4 t4 t5 hr4 h5 b1 H3
  go_wp2_with fail
  refine (HF.out _ H4.out.1).mono ?_
  rintro e w5 ⟨rfl, h6, t6⟩
  have hr := t6.heap H4.out.2.2 (by omega)
  obtain ⟨⟨k0, g0⟩, ⟨k1, g1⟩, ⟨k2, g2⟩, ⟨k3, g3⟩, ⟨k4, g4⟩, ⟨k5, g5⟩⟩ := at6 hr
  have H6 := Lib.hid (And.intro h6 (H4.out.2.1.trans t6 fun _ _ h => h))
  clear h6 t6 H4 hr
  go_wp2
  refine bodyPost_ret (v := .agg zero6) (by simp [results, Tryd.results28, go_sem, k0, k1, k2, k3, k4, k5]) rfl ?_
  exact ⟨rfl, (((((H6.out.1.set_other (by simp; omega) _).set_other (by simp; omega) _).set_other (by simp; omega) _).set_other (by simp; omega) _).set_other (by simp; omega) _).set_other (by simp; omega) _,
    (((((H6.out.2.setNew (by simp) _).setNew (by simp) _).setNew (by simp) _).setNew (by simp) _).setNew (by simp) _).setNew (by simp) _⟩

set_option maxHeartbeats 4000000 in
theorem tuple_goes (I : Nat) (s : ByteArray) (p : L3 × L3) (z : List UInt8) (w : World) (h : Inn w I s false) (hs : s.data.toList = tupleB p ++ z) (hg : Bond.goodB p.1 p.2 = true)
    (l0 : p.1.1.length ≤ 96) (l1 : p.1.2.1.length ≤ 96) (l2 : p.1.2.2.length ≤ 96) (l3 : p.2.1.length ≤ 96) (l4 : p.2.2.1.length ≤ 96) (l5 : p.2.2.2.length ≤ 96) :
    Calls Tryd.prog 28 #[iptr I] w fun e x => e = .returned (tupV (bs p.1.1) (bs p.1.2.1) (bs p.1.2.2) (bs p.2.1) (bs p.2.2.1) (bs p.2.2.2)) ∧ Inn x I (bs z) false ∧ Turns (At I) w x := by
  have T1 := Lib.hid (fun W h => text_goes I s (bs p.1.1) (textB p.1.2.1 ++ (textB p.1.2.2 ++ (three p.2 ++ z))) false 96 W h (by rw [hs, tupleB, three, bs_list]; simp) (by rw [bs_size]; omega) (by rw [bs_size]; omega))
  have T2 := Lib.hid (fun W h => text_goes I (bs (textB p.1.2.1 ++ (textB p.1.2.2 ++ (three p.2 ++ z)))) (bs p.1.2.1) (textB p.1.2.2 ++ (three p.2 ++ z)) false 96 W h (by rw [bs_list, bs_list]) (by rw [bs_size]; omega) (by rw [bs_size]; omega))
  have T3 := Lib.hid (fun W h => text_goes I (bs (textB p.1.2.2 ++ (three p.2 ++ z))) (bs p.1.2.2) (three p.2 ++ z) false 96 W h (by rw [bs_list, bs_list]) (by rw [bs_size]; omega) (by rw [bs_size]; omega))
  have T4 := Lib.hid (fun W h => sub_goes I (bs (three p.2 ++ z)) p.2 z false W h (by rw [bs_list]) l3 l4 l5)
  have hsj := fun W => Bond.good_free (bs p.1.1) (bs p.1.2.1) (bs p.1.2.2) (bs p.2.1) (bs p.2.2.1) (bs p.2.2.2) W
  simp only [bs_list, hg] at hsj
  unfold tupV at hsj ⊢
  have HS := Lib.hid hsj
  have hI := h.lt
  have hb0 : Below w.heap.size w (w.alloc (.cells zero6 38)) := (Below.refl _ _).alloc (Nat.le_refl _) _
  have h0 := Lib.hid (h.below hb0)
  have T0 := Lib.hid (Turns.of_below (F := At I) hb0)
  have hR : (w.alloc (.cells zero6 38)).heap[w.heap.size]? = _ := heap_alloc_new w _
  have HR := Lib.hid hR
  clear h hb0 hR hs l0 l1 l2 l3 l4 l5 hg hsj
  generalize bs p.1.1 = a at *
  generalize bs p.1.2.1 = b at *
  generalize bs p.1.2.2 = c at *
  generalize bs p.2.1 = a2 at *
  generalize bs p.2.2.1 = b2 at *
  generalize bs p.2.2.2 = c2 at *
  go_enter Tryd.func28, Tryd.ntmps28
  go_wp2_with fail
  refine (T1.out _ h0.out).mono ?_
  rintro e w1 ⟨rfl, h1, t1⟩
  have H1 := Lib.hid (And.intro h1 (And.intro (T0.out.trans t1 fun _ _ h => h) (t1.heap HR.out (by omega))))
  clear h1 t1 HR T0
  go_wp2_with fail
  refine (T2.out _ H1.out.1).mono ?_
  rintro e w2 ⟨rfl, h2, t2⟩
  have H2 := Lib.hid (And.intro h2 (And.intro (H1.out.2.1.trans t2 fun _ _ h => h) (t2.heap H1.out.2.2 (by omega))))
  clear h2 t2 H1
  go_wp2_with fail
  refine (T3.out _ H2.out.1).mono ?_
  rintro e w3 ⟨rfl, h3, t3⟩
  have H3 := Lib.hid (And.intro h3 (And.intro (H2.out.2.1.trans t3 fun _ _ h => h) (t3.heap H2.out.2.2 (by omega))))
  clear h3 t3 H2
  go_wp2_with fail
  refine (T4.out _ H3.out.1).mono ?_
  rintro e w4 ⟨rfl, h4, t4⟩
  have b1 : Below w4.heap.size w4 (w4.alloc (.cells #[.string a, .string b, .string c, .string a2, .string b2, .string c2] 38)) := (Below.refl _ _).alloc (Nat.le_refl _) _
  have hS : (w4.alloc (.cells #[.string a, .string b, .string c, .string a2, .string b2, .string c2] 38)).heap[w4.heap.size]? = _ := heap_alloc_new w4 _
  have h5 := h4.below b1
  have l1 := h4.lt
  have t5 := H3.out.2.1.trans t4 fun _ _ h => h
  have hr4 := t4.heap H3.out.2.2 (by omega)
  have z1 : w.heap.size < w4.heap.size := (Array.getElem?_eq_some_iff.1 hr4).1
  obtain ⟨-, ⟨c1, f1⟩⟩ := h4.cells
  have H4 := Lib.hid (And.intro h5 (And.intro (t5.then_below b1) (And.intro ((b1.block _ z1).trans hr4) hS)))
  clear h4 t4 t5 hr4 h5 b1 H3 hS
  go_wp2_with fail
  refine (HS.out _).mono ?_
  rintro e w5 ⟨rfl, b5⟩
  have h6 := H4.out.1.below b5
  have hr := (b5.block _ (by simp; omega)).trans H4.out.2.2.1
  have hS := (b5.block w4.heap.size (by simp)).trans H4.out.2.2.2
  obtain ⟨⟨k0, g0⟩, ⟨k1, g1⟩, ⟨k2, g2⟩, ⟨k3, g3⟩, ⟨k4, g4⟩, ⟨k5, g5⟩⟩ := at6 hr
  obtain ⟨⟨s0, -⟩, ⟨s1, -⟩, ⟨s2, -⟩, ⟨s3, -⟩, ⟨s4, -⟩, ⟨s5, -⟩⟩ := at6 hS
  have H6 := Lib.hid (And.intro h6 (H4.out.2.1.then_below b5))
  clear h6 b5 H4 hr hS
  go_wp2
  refine bodyPost_ret (v := .agg #[.string a, .string b, .string c, .string a2, .string b2, .string c2]) (by simp [results, Tryd.results28, go_sem, k0, k1, k2, k3, k4, k5]) rfl ?_
  exact ⟨rfl, (((((H6.out.1.set_other (by simp; omega) _).set_other (by simp; omega) _).set_other (by simp; omega) _).set_other (by simp; omega) _).set_other (by simp; omega) _).set_other (by simp; omega) _,
    (((((H6.out.2.setNew (by simp) _).setNew (by simp) _).setNew (by simp) _).setNew (by simp) _).setNew (by simp) _).setNew (by simp) _⟩
end Knot
end Go.Proofs.YtoeaapomjjclaaaDoor
