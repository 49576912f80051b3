/-
  The statement BondOwn at every two tuples and every choice of fields.
-/
import Derived.Test.YtbgbkhjcfchamaaOwnPure
import Derived.Test.YtbgbkhjcfchamaaBondC
import Derived.Test.YtbgbkhjcfchamaaBondH
import Derived.Deep.DeepCutAuto
import Derived.BigRegion
namespace Go.Proofs.Ytbgbkhjcfchamaa
open Go.RowKit
namespace LawBOwn
open Bond
open Who (bs bs_list bs_size bs_self Held)

theorem Held.put {w x : World} {L : List (Addr × Value)} (L' : List (Addr × Value)) {p : Addr} {v v' : Value} (h : Held w L x) (hm : (p, v) ∈ L) (hb : w.heap.size ≤ p.block)
    (hL : ∀ q ∈ L', (q.1 = p ∧ q.2 = v') ∨ (q ∈ L ∧ q.1 ≠ p)) : Held w L' (x.setCell p v') := by
  refine ⟨h.1.setCell hb _, fun q hq => ?_⟩
  obtain ⟨m1, m2, m3⟩ := h.2 _ hm
  rcases hL q hq with ⟨e1, e2⟩ | ⟨e1, e2⟩
  · rw [e1, e2]
    exact ⟨by rw [World.size_setCell]; exact m1, World.cell?_setCell_same _ _ _ m2, by rw [World.frozen?_setCell]; exact m3⟩
  · obtain ⟨n1, n2, n3⟩ := h.2 q e1
    exact ⟨by rw [World.size_setCell]; exact n1, (World.cell?_setCell_other _ _ _ _ (Ne.symm e2)).trans n2, by rw [World.frozen?_setCell]; exact n3⟩
theorem Held.more7 {w x : World} {L : List (Addr × Value)} (h : Held w L x) (T : TypeId) (b0 b1 b2 b3 b4 b5 b6 : Value) :
    Held w ((⟨x.heap.size, 0, none⟩, b0) :: (⟨x.heap.size, 1, none⟩, b1) :: (⟨x.heap.size, 2, none⟩, b2) :: (⟨x.heap.size, 3, none⟩, b3) :: (⟨x.heap.size, 4, none⟩, b4) :: (⟨x.heap.size, 5, none⟩, b5) :: (⟨x.heap.size, 6, none⟩, b6) :: L) (x.alloc (.cells #[b0, b1, b2, b3, b4, b5, b6] T)) := by
  refine ⟨h.1.alloc h.1.size _, ?_⟩
  have hs := (Held.step ((Below.refl x.heap.size x).alloc (Nat.le_refl _) (.cells #[b0, b1, b2, b3, b4, b5, b6] T)) h).2
  simp only [List.forall_mem_cons]
  refine ⟨?_, ?_, ?_, ?_, ?_, ?_, ?_, hs⟩ <;> simp

theorem own_right (c0 c1 c2 c3 c4 c5 : Bool) (t0 t1 t2 t3 t4 t5 : ByteArray)
    (hg : goodB (t0.data.toList, t1.data.toList, t2.data.toList) (t3.data.toList, t4.data.toList, t5.data.toList) = true) (h10 : c1 = true → c0 = true) (h43 : c4 = true → c3 = true) (h53 : c5 = true → c3 = true) (w : World) :
    Calls Try.prog 13 #[filV (pick c0 t0) (pick c1 t1) (pick c2 t2) (pick c3 t3) (pick c4 t4) (pick c5 t5) (c5 && decide (t5.data.toList = []))] w fun e w' => e = .returned (.bool true) ∧ Below w.heap.size w w' := by
  obtain ⟨g0, g1, g2, g3, g4, g5⟩ := good_parts hg
  refine right_true _ _ _ _ _ _ _ w (pick_or (P := fun l => Gly.nameB l = true) c0 t0 g0) (pick_or (P := fun l => Gly.nameB l = true) c2 t2 g2) (pick_or (P := fun l => Gly.nameB l = true) c3 t3 g3) ?_
    (pick_or (P := fun l => Gly.idB l = true) c1 t1 g1) (pick_or (P := fun l => l = [42] ∨ Gly.idB l = true) c4 t4 g4) (pick_back h10 (name_ne g0)) (pick_back h43 (name_ne g3)) (pick_back h53 (name_ne g3)) ?_
  · rw [pick_list]
    cases c5
    · exact Or.inl rfl
    · exact g5
  · intro h
    rw [Bool.and_eq_true, decide_eq_true_eq] at h
    obtain ⟨a, b⟩ := h
    rw [pick_list, pick_list, h53 a, a]
    exact ⟨name_ne g3, b⟩
theorem own_match (c0 c1 c2 c3 c4 c5 : Bool) (t0 t1 t2 t3 t4 t5 u0 u1 u2 u3 u4 u5 : ByteArray)
    (hg : goodB (t0.data.toList, t1.data.toList, t2.data.toList) (t3.data.toList, t4.data.toList, t5.data.toList) = true) (w : World) :
    Calls Try.prog 14 #[filV (pick c0 t0) (pick c1 t1) (pick c2 t2) (pick c3 t3) (pick c4 t4) (pick c5 t5) (c5 && decide (t5.data.toList = [])), tupV u0 u1 u2 u3 u4 u5] w fun e w' =>
      e = .returned (.bool (agree c0 u0 t0 && agree c1 u1 t1 && agree c2 u2 t2 && agree c3 u3 t3 && agree c4 u4 t4 && agree c5 u5 t5)) ∧ Below w.heap.size w w' := by
  obtain ⟨g0, g1, g2, g3, g4, g5⟩ := good_parts hg
  rw [← match_own c0 c1 c2 c3 c4 c5 t0 t1 t2 t3 t4 t5 u0 u1 u2 u3 u4 u5 (name_ne g0) (id_ne g1) (name_ne g2) (name_ne g3) (id_or_ne g4)]
  exact match_free _ _ _ _ _ _ _ _ _ _ _ _ _ w
theorem own_none (u0 u1 u2 u3 u4 u5 : ByteArray) (w : World) :
    Calls Try.prog 14 #[filV ⟨#[]⟩ ⟨#[]⟩ ⟨#[]⟩ ⟨#[]⟩ ⟨#[]⟩ ⟨#[]⟩ false, tupV u0 u1 u2 u3 u4 u5] w fun e w' => e = .returned (.bool true) ∧ Below w.heap.size w w' := by
  rw [← match_none u0 u1 u2 u3 u4 u5]
  exact match_free _ _ _ _ _ _ _ _ _ _ _ _ _ w

set_option maxHeartbeats 8000000 in
set_option maxRecDepth 100000 in
theorem walk_good (t0 t1 t2 t3 t4 t5 u0 u1 u2 u3 u4 u5 : ByteArray) (z : Int) (w : World) (hz0 : 0 ≤ z) (hz1 : z ≤ 255)
    (hg : goodB (t0.data.toList, t1.data.toList, t2.data.toList) (t3.data.toList, t4.data.toList, t5.data.toList) = true)
    (hu : goodB (u0.data.toList, u1.data.toList, u2.data.toList) (u3.data.toList, u4.data.toList, u5.data.toList) = true) :
    Calls Try.prog 5 #[tupV t0 t1 t2 t3 t4 t5, tupV u0 u1 u2 u3 u4 u5, .int .u8 z] w fun e w' => e = .returned (.bool true) ∧ Below w.heap.size w w' := by
  have HA := Lib.hid (fun w => awake_any w)
  have h1 := fun w => good_free t0 t1 t2 t3 t4 t5 w
  have h2 := fun w => good_free u0 u1 u2 u3 u4 u5 w
  rw [hg] at h1
  rw [hu] at h2
  unfold tupV at *
  have H1 := Lib.hid h1
  have H2 := Lib.hid h2
  have HG := Lib.hid hg
  have HB := bits_own z.toNat (by omega)
  rw [show ((z.toNat : Nat) : Int) = z by omega] at HB
  obtain ⟨c0, hc0⟩ : ∃ c, (bits BinOp.and IntKind.u8 z 1 != 0) = c := ⟨_, rfl⟩
  obtain ⟨c1, hc1⟩ : ∃ c, (bits BinOp.and IntKind.u8 z 3 == 3) = c := ⟨_, rfl⟩
  obtain ⟨c2, hc2⟩ : ∃ c, (bits BinOp.and IntKind.u8 z 4 != 0) = c := ⟨_, rfl⟩
  obtain ⟨c3, hc3⟩ : ∃ c, (bits BinOp.and IntKind.u8 z 8 != 0) = c := ⟨_, rfl⟩
  obtain ⟨c4, hc4⟩ : ∃ c, (bits BinOp.and IntKind.u8 z 24 == 24) = c := ⟨_, rfl⟩
  obtain ⟨c5, hc5⟩ : ∃ c, (bits BinOp.and IntKind.u8 z 40 == 40) = c := ⟨_, rfl⟩
  rw [hc0, hc1, hc3, hc4, hc5] at HB
  have HBH := Lib.hid HB
  have C0 := Lib.hid hc0
  have C1 := Lib.hid hc1
  have C2 := Lib.hid hc2
  have C3 := Lib.hid hc3
  have C4 := Lib.hid hc4
  have C5 := Lib.hid hc5
  have HH := Lib.hid (Held.more6 (Held.one6 w 25 (.string t0) (.string t1) (.string t2) (.string t3) (.string t4) (.string t5)) 25 (.string u0) (.string u1) (.string u2) (.string u3) (.string u4) (.string u5))
  clear h1 h2 hg hu HB hc0 hc1 hc2 hc3 hc4 hc5 hz0 hz1
  go_enter Try.func5, Try.ntmps5
  go_wp2_with fail
  refine (HA.out _).mono ?_
  rintro e w1 ⟨rfl, b1⟩
  have I1 := Held.step b1 HH.out
  simp only [World.size_alloc] at I1
  have q := I1.all
  simp only [List.forall_mem_cons] at q
  obtain ⟨⟨-, p0, -⟩, ⟨-, p1, -⟩, ⟨-, p2, -⟩, ⟨-, p3, -⟩, ⟨-, p4, -⟩, ⟨-, p5, -⟩, ⟨-, k0, -⟩, ⟨-, k1, -⟩, ⟨-, k2, -⟩, ⟨-, k3, -⟩, ⟨-, k4, -⟩, ⟨-, k5, -⟩, -⟩ := q
  clear b1 HH
  go_wp2_with fail
  (with_reducible refine (H1.out _).mono ?_)
  rintro e w2 ⟨rfl, b2⟩
  have I2 := Held.step b2 I1
  have q := I2.all
  simp only [List.forall_mem_cons] at q
  clear b2 I1 p0 p1 p2 p3 p4 p5 k0 k1 k2 k3 k4 k5
  obtain ⟨⟨-, p0, -⟩, ⟨-, p1, -⟩, ⟨-, p2, -⟩, ⟨-, p3, -⟩, ⟨-, p4, -⟩, ⟨-, p5, -⟩, ⟨-, k0, -⟩, ⟨-, k1, -⟩, ⟨-, k2, -⟩, ⟨-, k3, -⟩, ⟨-, k4, -⟩, ⟨-, k5, -⟩, -⟩ := q
  go_wp2_with fail
  (with_reducible refine (H2.out _).mono ?_)
  rintro e w3 ⟨rfl, b3⟩
  have I3 := Held.step b3 I2
  clear b3 I2 p0 p1 p2 p3 p4 p5 k0 k1 k2 k3 k4 k5
  have z1 : w.heap.size + 1 < w3.heap.size := ((I3.all) _ (List.mem_cons_self ..)).1
  have I4 := Held.more7 I3 36 (.string ⟨#[]⟩) (.string ⟨#[]⟩) (.string ⟨#[]⟩) (.string ⟨#[]⟩) (.string ⟨#[]⟩) (.string ⟨#[]⟩) (.bool false)
  go_upto_region 5 with fail
  obtain ⟨x0, hx0⟩ : ∃ x0, x0 = w3.alloc (.cells #[.string ⟨#[]⟩, .string ⟨#[]⟩, .string ⟨#[]⟩, .string ⟨#[]⟩, .string ⟨#[]⟩, .string ⟨#[]⟩, .bool false] 36) := ⟨_, rfl⟩
  rw [← hx0] at I4 ⊢
  clear hx0 I3 H1 H2
  generalize hA1 : w.heap.size + 1 = A1 at *
  generalize w3.heap.size = B at *
  have n1 : ¬ B = A1 := by omega
  have n2 : ¬ B = w.heap.size := by omega
  have n3 : ¬ A1 = B := by omega
  have n4 : ¬ w.heap.size = B := by omega
  have n5 : w.heap.size ≤ B := by omega
  clear hA1 z1
  have I := Lib.hid I4
  clear I4
  have q := I.out.all
  simp only [List.forall_mem_cons] at q
  obtain ⟨⟨-, f0, g0⟩, ⟨-, f1, g1⟩, ⟨-, f2, g2⟩, ⟨-, f3, g3⟩, ⟨-, f4, g4⟩, ⟨-, f5, g5⟩, ⟨-, f6, g6⟩, ⟨-, p0, -⟩, ⟨-, p1, -⟩, ⟨-, p2, -⟩, ⟨-, p3, -⟩, ⟨-, p4, -⟩, ⟨-, p5, -⟩, ⟨-, k0, -⟩, ⟨-, k1, -⟩, ⟨-, k2, -⟩, ⟨-, k3, -⟩, ⟨-, k4, -⟩, ⟨-, k5, -⟩, -⟩ := q
  have e0 := C0.out
  go_upto_if 25 with fail
  clear e0
  go_cut [8] (fun s8 wx => ∃ (F : ByteArray) (S : Bool), s8 = .bool S ∧ Hid (Held w [(⟨B, 0, none⟩, .string F), (⟨B, 1, none⟩, .string ⟨#[]⟩), (⟨B, 2, none⟩, .string ⟨#[]⟩), (⟨B, 3, none⟩, .string ⟨#[]⟩), (⟨B, 4, none⟩, .string ⟨#[]⟩), (⟨B, 5, none⟩, .string ⟨#[]⟩), (⟨B, 6, none⟩, .bool false), (⟨A1, 0, none⟩, .string u0), (⟨A1, 1, none⟩, .string u1), (⟨A1, 2, none⟩, .string u2), (⟨A1, 3, none⟩, .string u3), (⟨A1, 4, none⟩, .string u4), (⟨A1, 5, none⟩, .string u5), (⟨w.heap.size, 0, none⟩, .string t0), (⟨w.heap.size, 1, none⟩, .string t1), (⟨w.heap.size, 2, none⟩, .string t2), (⟨w.heap.size, 3, none⟩, .string t3), (⟨w.heap.size, 4, none⟩, .string t4), (⟨w.heap.size, 5, none⟩, .string t5)] wx) ∧ Hid (F = pick c0 t0 ∧ S = (true && agree c0 u0 t0)))
  case first =>
    cases c0 with
    | false =>
      go_wp2_with fail
      go_meet
      exact ⟨⟨#[]⟩, true, rfl, I, Lib.hid ⟨rfl, by simp [agree]⟩⟩
    | true =>
      go_wp2_with fail
      go_meet
      exact ⟨t0, (u0.toList == t0.toList), rfl, by exact Lib.hid (Held.put [(⟨B, 0, none⟩, .string t0), (⟨B, 1, none⟩, .string ⟨#[]⟩), (⟨B, 2, none⟩, .string ⟨#[]⟩), (⟨B, 3, none⟩, .string ⟨#[]⟩), (⟨B, 4, none⟩, .string ⟨#[]⟩), (⟨B, 5, none⟩, .string ⟨#[]⟩), (⟨B, 6, none⟩, .bool false), (⟨A1, 0, none⟩, .string u0), (⟨A1, 1, none⟩, .string u1), (⟨A1, 2, none⟩, .string u2), (⟨A1, 3, none⟩, .string u3), (⟨A1, 4, none⟩, .string u4), (⟨A1, 5, none⟩, .string u5), (⟨w.heap.size, 0, none⟩, .string t0), (⟨w.heap.size, 1, none⟩, .string t1), (⟨w.heap.size, 2, none⟩, .string t2), (⟨w.heap.size, 3, none⟩, .string t3), (⟨w.heap.size, 4, none⟩, .string t4), (⟨w.heap.size, 5, none⟩, .string t5)] I.out (v := .string ⟨#[]⟩) (by simp) (by simpa using n5) (by simp only [List.forall_mem_cons]; simp)), Lib.hid ⟨rfl, by simp [agree]⟩⟩
  clear I f0 f1 f2 f3 f4 f5 f6 g0 g1 g2 g3 g4 g5 g6 p0 p1 p2 p3 p4 p5 k0 k1 k2 k3 k4 k5
  obtain ⟨F0, S0, rfl, I, E0⟩ := hcut
  have q := I.out.all
  simp only [List.forall_mem_cons] at q
  obtain ⟨⟨-, f0, g0⟩, ⟨-, f1, g1⟩, ⟨-, f2, g2⟩, ⟨-, f3, g3⟩, ⟨-, f4, g4⟩, ⟨-, f5, g5⟩, ⟨-, f6, g6⟩, ⟨-, p0, -⟩, ⟨-, p1, -⟩, ⟨-, p2, -⟩, ⟨-, p3, -⟩, ⟨-, p4, -⟩, ⟨-, p5, -⟩, ⟨-, k0, -⟩, ⟨-, k1, -⟩, ⟨-, k2, -⟩, ⟨-, k3, -⟩, ⟨-, k4, -⟩, ⟨-, k5, -⟩, -⟩ := q
  have e0 := C1.out
  go_upto_if 39 with fail
  clear e0
  go_cut [8] (fun s8 wx => ∃ (F : ByteArray) (S : Bool), s8 = .bool S ∧ Hid (Held w [(⟨B, 0, none⟩, .string F0), (⟨B, 1, none⟩, .string F), (⟨B, 2, none⟩, .string ⟨#[]⟩), (⟨B, 3, none⟩, .string ⟨#[]⟩), (⟨B, 4, none⟩, .string ⟨#[]⟩), (⟨B, 5, none⟩, .string ⟨#[]⟩), (⟨B, 6, none⟩, .bool false), (⟨A1, 0, none⟩, .string u0), (⟨A1, 1, none⟩, .string u1), (⟨A1, 2, none⟩, .string u2), (⟨A1, 3, none⟩, .string u3), (⟨A1, 4, none⟩, .string u4), (⟨A1, 5, none⟩, .string u5), (⟨w.heap.size, 0, none⟩, .string t0), (⟨w.heap.size, 1, none⟩, .string t1), (⟨w.heap.size, 2, none⟩, .string t2), (⟨w.heap.size, 3, none⟩, .string t3), (⟨w.heap.size, 4, none⟩, .string t4), (⟨w.heap.size, 5, none⟩, .string t5)] wx) ∧ Hid (F = pick c1 t1 ∧ S = (S0 && agree c1 u1 t1)))
  case first =>
    cases c1 with
    | false =>
      go_wp2_with fail
      go_meet
      exact ⟨⟨#[]⟩, S0, rfl, I, Lib.hid ⟨rfl, by simp [agree]⟩⟩
    | true =>
      cases S0 with
      | false =>
        go_wp2_with fail
        go_meet
        exact ⟨t1, false, rfl, by exact Lib.hid (Held.put [(⟨B, 0, none⟩, .string F0), (⟨B, 1, none⟩, .string t1), (⟨B, 2, none⟩, .string ⟨#[]⟩), (⟨B, 3, none⟩, .string ⟨#[]⟩), (⟨B, 4, none⟩, .string ⟨#[]⟩), (⟨B, 5, none⟩, .string ⟨#[]⟩), (⟨B, 6, none⟩, .bool false), (⟨A1, 0, none⟩, .string u0), (⟨A1, 1, none⟩, .string u1), (⟨A1, 2, none⟩, .string u2), (⟨A1, 3, none⟩, .string u3), (⟨A1, 4, none⟩, .string u4), (⟨A1, 5, none⟩, .string u5), (⟨w.heap.size, 0, none⟩, .string t0), (⟨w.heap.size, 1, none⟩, .string t1), (⟨w.heap.size, 2, none⟩, .string t2), (⟨w.heap.size, 3, none⟩, .string t3), (⟨w.heap.size, 4, none⟩, .string t4), (⟨w.heap.size, 5, none⟩, .string t5)] I.out (v := .string ⟨#[]⟩) (by simp) (by simpa using n5) (by simp only [List.forall_mem_cons]; simp)), Lib.hid ⟨rfl, rfl⟩⟩
      | true =>
        go_wp2_with fail
        go_meet
        exact ⟨t1, (u1.toList == t1.toList), rfl, by exact Lib.hid (Held.put [(⟨B, 0, none⟩, .string F0), (⟨B, 1, none⟩, .string t1), (⟨B, 2, none⟩, .string ⟨#[]⟩), (⟨B, 3, none⟩, .string ⟨#[]⟩), (⟨B, 4, none⟩, .string ⟨#[]⟩), (⟨B, 5, none⟩, .string ⟨#[]⟩), (⟨B, 6, none⟩, .bool false), (⟨A1, 0, none⟩, .string u0), (⟨A1, 1, none⟩, .string u1), (⟨A1, 2, none⟩, .string u2), (⟨A1, 3, none⟩, .string u3), (⟨A1, 4, none⟩, .string u4), (⟨A1, 5, none⟩, .string u5), (⟨w.heap.size, 0, none⟩, .string t0), (⟨w.heap.size, 1, none⟩, .string t1), (⟨w.heap.size, 2, none⟩, .string t2), (⟨w.heap.size, 3, none⟩, .string t3), (⟨w.heap.size, 4, none⟩, .string t4), (⟨w.heap.size, 5, none⟩, .string t5)] I.out (v := .string ⟨#[]⟩) (by simp) (by simpa using n5) (by simp only [List.forall_mem_cons]; simp)), Lib.hid ⟨rfl, by simp [agree]⟩⟩
  clear I f0 f1 f2 f3 f4 f5 f6 g0 g1 g2 g3 g4 g5 g6 p0 p1 p2 p3 p4 p5 k0 k1 k2 k3 k4 k5
  obtain ⟨F1, S1, rfl, I, E1⟩ := hcut
  have q := I.out.all
  simp only [List.forall_mem_cons] at q
  obtain ⟨⟨-, f0, g0⟩, ⟨-, f1, g1⟩, ⟨-, f2, g2⟩, ⟨-, f3, g3⟩, ⟨-, f4, g4⟩, ⟨-, f5, g5⟩, ⟨-, f6, g6⟩, ⟨-, p0, -⟩, ⟨-, p1, -⟩, ⟨-, p2, -⟩, ⟨-, p3, -⟩, ⟨-, p4, -⟩, ⟨-, p5, -⟩, ⟨-, k0, -⟩, ⟨-, k1, -⟩, ⟨-, k2, -⟩, ⟨-, k3, -⟩, ⟨-, k4, -⟩, ⟨-, k5, -⟩, -⟩ := q
  have e0 := C2.out
  go_upto_if 53 with fail
  clear e0
  go_cut [8] (fun s8 wx => ∃ (F : ByteArray) (S : Bool), s8 = .bool S ∧ Hid (Held w [(⟨B, 0, none⟩, .string F0), (⟨B, 1, none⟩, .string F1), (⟨B, 2, none⟩, .string F), (⟨B, 3, none⟩, .string ⟨#[]⟩), (⟨B, 4, none⟩, .string ⟨#[]⟩), (⟨B, 5, none⟩, .string ⟨#[]⟩), (⟨B, 6, none⟩, .bool false), (⟨A1, 0, none⟩, .string u0), (⟨A1, 1, none⟩, .string u1), (⟨A1, 2, none⟩, .string u2), (⟨A1, 3, none⟩, .string u3), (⟨A1, 4, none⟩, .string u4), (⟨A1, 5, none⟩, .string u5), (⟨w.heap.size, 0, none⟩, .string t0), (⟨w.heap.size, 1, none⟩, .string t1), (⟨w.heap.size, 2, none⟩, .string t2), (⟨w.heap.size, 3, none⟩, .string t3), (⟨w.heap.size, 4, none⟩, .string t4), (⟨w.heap.size, 5, none⟩, .string t5)] wx) ∧ Hid (F = pick c2 t2 ∧ S = (S1 && agree c2 u2 t2)))
  case first =>
    cases c2 with
    | false =>
      go_wp2_with fail
      go_meet
      exact ⟨⟨#[]⟩, S1, rfl, I, Lib.hid ⟨rfl, by simp [agree]⟩⟩
    | true =>
      cases S1 with
      | false =>
        go_wp2_with fail
        go_meet
        exact ⟨t2, false, rfl, by exact Lib.hid (Held.put [(⟨B, 0, none⟩, .string F0), (⟨B, 1, none⟩, .string F1), (⟨B, 2, none⟩, .string t2), (⟨B, 3, none⟩, .string ⟨#[]⟩), (⟨B, 4, none⟩, .string ⟨#[]⟩), (⟨B, 5, none⟩, .string ⟨#[]⟩), (⟨B, 6, none⟩, .bool false), (⟨A1, 0, none⟩, .string u0), (⟨A1, 1, none⟩, .string u1), (⟨A1, 2, none⟩, .string u2), (⟨A1, 3, none⟩, .string u3), (⟨A1, 4, none⟩, .string u4), (⟨A1, 5, none⟩, .string u5), (⟨w.heap.size, 0, none⟩, .string t0), (⟨w.heap.size, 1, none⟩, .string t1), (⟨w.heap.size, 2, none⟩, .string t2), (⟨w.heap.size, 3, none⟩, .string t3), (⟨w.heap.size, 4, none⟩, .string t4), (⟨w.heap.size, 5, none⟩, .string t5)] I.out (v := .string ⟨#[]⟩) (by simp) (by simpa using n5) (by simp only [List.forall_mem_cons]; simp)), Lib.hid ⟨rfl, rfl⟩⟩
      | true =>
        go_wp2_with fail
        go_meet
        exact ⟨t2, (u2.toList == t2.toList), rfl, by exact Lib.hid (Held.put [(⟨B, 0, none⟩, .string F0), (⟨B, 1, none⟩, .string F1), (⟨B, 2, none⟩, .string t2), (⟨B, 3, none⟩, .string ⟨#[]⟩), (⟨B, 4, none⟩, .string ⟨#[]⟩), (⟨B, 5, none⟩, .string ⟨#[]⟩), (⟨B, 6, none⟩, .bool false), (⟨A1, 0, none⟩, .string u0), (⟨A1, 1, none⟩, .string u1), (⟨A1, 2, none⟩, .string u2), (⟨A1, 3, none⟩, .string u3), (⟨A1, 4, none⟩, .string u4), (⟨A1, 5, none⟩, .string u5), (⟨w.heap.size, 0, none⟩, .string t0), (⟨w.heap.size, 1, none⟩, .string t1), (⟨w.heap.size, 2, none⟩, .string t2), (⟨w.heap.size, 3, none⟩, .string t3), (⟨w.heap.size, 4, none⟩, .string t4), (⟨w.heap.size, 5, none⟩, .string t5)] I.out (v := .string ⟨#[]⟩) (by simp) (by simpa using n5) (by simp only [List.forall_mem_cons]; simp)), Lib.hid ⟨rfl, by simp [agree]⟩⟩
  clear I f0 f1 f2 f3 f4 f5 f6 g0 g1 g2 g3 g4 g5 g6 p0 p1 p2 p3 p4 p5 k0 k1 k2 k3 k4 k5
  obtain ⟨F2, S2, rfl, I, E2⟩ := hcut
  have q := I.out.all
  simp only [List.forall_mem_cons] at q
  obtain ⟨⟨-, f0, g0⟩, ⟨-, f1, g1⟩, ⟨-, f2, g2⟩, ⟨-, f3, g3⟩, ⟨-, f4, g4⟩, ⟨-, f5, g5⟩, ⟨-, f6, g6⟩, ⟨-, p0, -⟩, ⟨-, p1, -⟩, ⟨-, p2, -⟩, ⟨-, p3, -⟩, ⟨-, p4, -⟩, ⟨-, p5, -⟩, ⟨-, k0, -⟩, ⟨-, k1, -⟩, ⟨-, k2, -⟩, ⟨-, k3, -⟩, ⟨-, k4, -⟩, ⟨-, k5, -⟩, -⟩ := q
  have e0 := C3.out
  go_upto_if 67 with fail
  clear e0
  go_cut [8] (fun s8 wx => ∃ (F : ByteArray) (S : Bool), s8 = .bool S ∧ Hid (Held w [(⟨B, 0, none⟩, .string F0), (⟨B, 1, none⟩, .string F1), (⟨B, 2, none⟩, .string F2), (⟨B, 3, none⟩, .string F), (⟨B, 4, none⟩, .string ⟨#[]⟩), (⟨B, 5, none⟩, .string ⟨#[]⟩), (⟨B, 6, none⟩, .bool false), (⟨A1, 0, none⟩, .string u0), (⟨A1, 1, none⟩, .string u1), (⟨A1, 2, none⟩, .string u2), (⟨A1, 3, none⟩, .string u3), (⟨A1, 4, none⟩, .string u4), (⟨A1, 5, none⟩, .string u5), (⟨w.heap.size, 0, none⟩, .string t0), (⟨w.heap.size, 1, none⟩, .string t1), (⟨w.heap.size, 2, none⟩, .string t2), (⟨w.heap.size, 3, none⟩, .string t3), (⟨w.heap.size, 4, none⟩, .string t4), (⟨w.heap.size, 5, none⟩, .string t5)] wx) ∧ Hid (F = pick c3 t3 ∧ S = (S2 && agree c3 u3 t3)))
  case first =>
    cases c3 with
    | false =>
      go_wp2_with fail
      go_meet
      exact ⟨⟨#[]⟩, S2, rfl, I, Lib.hid ⟨rfl, by simp [agree]⟩⟩
    | true =>
      cases S2 with
      | false =>
        go_wp2_with fail
        go_meet
        exact ⟨t3, false, rfl, by exact Lib.hid (Held.put [(⟨B, 0, none⟩, .string F0), (⟨B, 1, none⟩, .string F1), (⟨B, 2, none⟩, .string F2), (⟨B, 3, none⟩, .string t3), (⟨B, 4, none⟩, .string ⟨#[]⟩), (⟨B, 5, none⟩, .string ⟨#[]⟩), (⟨B, 6, none⟩, .bool false), (⟨A1, 0, none⟩, .string u0), (⟨A1, 1, none⟩, .string u1), (⟨A1, 2, none⟩, .string u2), (⟨A1, 3, none⟩, .string u3), (⟨A1, 4, none⟩, .string u4), (⟨A1, 5, none⟩, .string u5), (⟨w.heap.size, 0, none⟩, .string t0), (⟨w.heap.size, 1, none⟩, .string t1), (⟨w.heap.size, 2, none⟩, .string t2), (⟨w.heap.size, 3, none⟩, .string t3), (⟨w.heap.size, 4, none⟩, .string t4), (⟨w.heap.size, 5, none⟩, .string t5)] I.out (v := .string ⟨#[]⟩) (by simp) (by simpa using n5) (by simp only [List.forall_mem_cons]; simp)), Lib.hid ⟨rfl, rfl⟩⟩
      | true =>
        go_wp2_with fail
        go_meet
        exact ⟨t3, (u3.toList == t3.toList), rfl, by exact Lib.hid (Held.put [(⟨B, 0, none⟩, .string F0), (⟨B, 1, none⟩, .string F1), (⟨B, 2, none⟩, .string F2), (⟨B, 3, none⟩, .string t3), (⟨B, 4, none⟩, .string ⟨#[]⟩), (⟨B, 5, none⟩, .string ⟨#[]⟩), (⟨B, 6, none⟩, .bool false), (⟨A1, 0, none⟩, .string u0), (⟨A1, 1, none⟩, .string u1), (⟨A1, 2, none⟩, .string u2), (⟨A1, 3, none⟩, .string u3), (⟨A1, 4, none⟩, .string u4), (⟨A1, 5, none⟩, .string u5), (⟨w.heap.size, 0, none⟩, .string t0), (⟨w.heap.size, 1, none⟩, .string t1), (⟨w.heap.size, 2, none⟩, .string t2), (⟨w.heap.size, 3, none⟩, .string t3), (⟨w.heap.size, 4, none⟩, .string t4), (⟨w.heap.size, 5, none⟩, .string t5)] I.out (v := .string ⟨#[]⟩) (by simp) (by simpa using n5) (by simp only [List.forall_mem_cons]; simp)), Lib.hid ⟨rfl, by simp [agree]⟩⟩
  clear I f0 f1 f2 f3 f4 f5 f6 g0 g1 g2 g3 g4 g5 g6 p0 p1 p2 p3 p4 p5 k0 k1 k2 k3 k4 k5
  obtain ⟨F3, S3, rfl, I, E3⟩ := hcut
  have q := I.out.all
  simp only [List.forall_mem_cons] at q
  obtain ⟨⟨-, f0, g0⟩, ⟨-, f1, g1⟩, ⟨-, f2, g2⟩, ⟨-, f3, g3⟩, ⟨-, f4, g4⟩, ⟨-, f5, g5⟩, ⟨-, f6, g6⟩, ⟨-, p0, -⟩, ⟨-, p1, -⟩, ⟨-, p2, -⟩, ⟨-, p3, -⟩, ⟨-, p4, -⟩, ⟨-, p5, -⟩, ⟨-, k0, -⟩, ⟨-, k1, -⟩, ⟨-, k2, -⟩, ⟨-, k3, -⟩, ⟨-, k4, -⟩, ⟨-, k5, -⟩, -⟩ := q
  have e0 := C4.out
  go_upto_if 84 with fail
  clear e0
  go_cut [8] (fun s8 wx => ∃ (F : ByteArray) (S : Bool), s8 = .bool S ∧ Hid (Held w [(⟨B, 0, none⟩, .string F0), (⟨B, 1, none⟩, .string F1), (⟨B, 2, none⟩, .string F2), (⟨B, 3, none⟩, .string F3), (⟨B, 4, none⟩, .string F), (⟨B, 5, none⟩, .string ⟨#[]⟩), (⟨B, 6, none⟩, .bool false), (⟨A1, 0, none⟩, .string u0), (⟨A1, 1, none⟩, .string u1), (⟨A1, 2, none⟩, .string u2), (⟨A1, 3, none⟩, .string u3), (⟨A1, 4, none⟩, .string u4), (⟨A1, 5, none⟩, .string u5), (⟨w.heap.size, 0, none⟩, .string t0), (⟨w.heap.size, 1, none⟩, .string t1), (⟨w.heap.size, 2, none⟩, .string t2), (⟨w.heap.size, 3, none⟩, .string t3), (⟨w.heap.size, 4, none⟩, .string t4), (⟨w.heap.size, 5, none⟩, .string t5)] wx) ∧ Hid (F = pick c4 t4 ∧ S = (S3 && agree c4 u4 t4)))
  case first =>
    cases c4 with
    | false =>
      go_wp2_with fail
      go_meet
      exact ⟨⟨#[]⟩, S3, rfl, I, Lib.hid ⟨rfl, by simp [agree]⟩⟩
    | true =>
      cases S3 with
      | false =>
        go_wp2_with fail
        go_meet
        exact ⟨t4, false, rfl, by exact Lib.hid (Held.put [(⟨B, 0, none⟩, .string F0), (⟨B, 1, none⟩, .string F1), (⟨B, 2, none⟩, .string F2), (⟨B, 3, none⟩, .string F3), (⟨B, 4, none⟩, .string t4), (⟨B, 5, none⟩, .string ⟨#[]⟩), (⟨B, 6, none⟩, .bool false), (⟨A1, 0, none⟩, .string u0), (⟨A1, 1, none⟩, .string u1), (⟨A1, 2, none⟩, .string u2), (⟨A1, 3, none⟩, .string u3), (⟨A1, 4, none⟩, .string u4), (⟨A1, 5, none⟩, .string u5), (⟨w.heap.size, 0, none⟩, .string t0), (⟨w.heap.size, 1, none⟩, .string t1), (⟨w.heap.size, 2, none⟩, .string t2), (⟨w.heap.size, 3, none⟩, .string t3), (⟨w.heap.size, 4, none⟩, .string t4), (⟨w.heap.size, 5, none⟩, .string t5)] I.out (v := .string ⟨#[]⟩) (by simp) (by simpa using n5) (by simp only [List.forall_mem_cons]; simp)), Lib.hid ⟨rfl, rfl⟩⟩
      | true =>
        go_wp2_with fail
        go_meet
        exact ⟨t4, (u4.toList == t4.toList), rfl, by exact Lib.hid (Held.put [(⟨B, 0, none⟩, .string F0), (⟨B, 1, none⟩, .string F1), (⟨B, 2, none⟩, .string F2), (⟨B, 3, none⟩, .string F3), (⟨B, 4, none⟩, .string t4), (⟨B, 5, none⟩, .string ⟨#[]⟩), (⟨B, 6, none⟩, .bool false), (⟨A1, 0, none⟩, .string u0), (⟨A1, 1, none⟩, .string u1), (⟨A1, 2, none⟩, .string u2), (⟨A1, 3, none⟩, .string u3), (⟨A1, 4, none⟩, .string u4), (⟨A1, 5, none⟩, .string u5), (⟨w.heap.size, 0, none⟩, .string t0), (⟨w.heap.size, 1, none⟩, .string t1), (⟨w.heap.size, 2, none⟩, .string t2), (⟨w.heap.size, 3, none⟩, .string t3), (⟨w.heap.size, 4, none⟩, .string t4), (⟨w.heap.size, 5, none⟩, .string t5)] I.out (v := .string ⟨#[]⟩) (by simp) (by simpa using n5) (by simp only [List.forall_mem_cons]; simp)), Lib.hid ⟨rfl, by simp [agree]⟩⟩
  clear I f0 f1 f2 f3 f4 f5 f6 g0 g1 g2 g3 g4 g5 g6 p0 p1 p2 p3 p4 p5 k0 k1 k2 k3 k4 k5
  obtain ⟨F4, S4, rfl, I, E4⟩ := hcut
  have q := I.out.all
  simp only [List.forall_mem_cons] at q
  obtain ⟨⟨-, f0, g0⟩, ⟨-, f1, g1⟩, ⟨-, f2, g2⟩, ⟨-, f3, g3⟩, ⟨-, f4, g4⟩, ⟨-, f5, g5⟩, ⟨-, f6, g6⟩, ⟨-, p0, -⟩, ⟨-, p1, -⟩, ⟨-, p2, -⟩, ⟨-, p3, -⟩, ⟨-, p4, -⟩, ⟨-, p5, -⟩, ⟨-, k0, -⟩, ⟨-, k1, -⟩, ⟨-, k2, -⟩, ⟨-, k3, -⟩, ⟨-, k4, -⟩, ⟨-, k5, -⟩, -⟩ := q
  have e0 := C5.out
  go_upto_if 101 with fail
  clear e0
  go_cut [8] (fun s8 wx => ∃ (F : ByteArray) (S b : Bool), s8 = .bool S ∧ Hid (Held w [(⟨B, 0, none⟩, .string F0), (⟨B, 1, none⟩, .string F1), (⟨B, 2, none⟩, .string F2), (⟨B, 3, none⟩, .string F3), (⟨B, 4, none⟩, .string F4), (⟨B, 5, none⟩, .string F), (⟨B, 6, none⟩, .bool b), (⟨A1, 0, none⟩, .string u0), (⟨A1, 1, none⟩, .string u1), (⟨A1, 2, none⟩, .string u2), (⟨A1, 3, none⟩, .string u3), (⟨A1, 4, none⟩, .string u4), (⟨A1, 5, none⟩, .string u5), (⟨w.heap.size, 0, none⟩, .string t0), (⟨w.heap.size, 1, none⟩, .string t1), (⟨w.heap.size, 2, none⟩, .string t2), (⟨w.heap.size, 3, none⟩, .string t3), (⟨w.heap.size, 4, none⟩, .string t4), (⟨w.heap.size, 5, none⟩, .string t5)] wx) ∧ Hid (F = pick c5 t5 ∧ b = (c5 && decide (t5.data.toList = [])) ∧ S = (S4 && agree c5 u5 t5)))
  case first =>
    cases c5 with
    | false =>
      go_wp2_with fail
      go_meet
      exact ⟨⟨#[]⟩, S4, false, rfl, I, Lib.hid ⟨rfl, rfl, by simp [agree]⟩⟩
    | true =>
      by_cases he : t5.data.toList = []
      · obtain ⟨e1, e2⟩ := Who.emp_true he
        have HE := Lib.hid he
        clear he
        cases S4 with
        | false =>
          go_wp2_with fail
          go_region
          go_wp2_with fail
          go_meet
          exact ⟨t5, false, true, rfl, by exact Lib.hid (Held.put [(⟨B, 0, none⟩, .string F0), (⟨B, 1, none⟩, .string F1), (⟨B, 2, none⟩, .string F2), (⟨B, 3, none⟩, .string F3), (⟨B, 4, none⟩, .string F4), (⟨B, 5, none⟩, .string t5), (⟨B, 6, none⟩, .bool true), (⟨A1, 0, none⟩, .string u0), (⟨A1, 1, none⟩, .string u1), (⟨A1, 2, none⟩, .string u2), (⟨A1, 3, none⟩, .string u3), (⟨A1, 4, none⟩, .string u4), (⟨A1, 5, none⟩, .string u5), (⟨w.heap.size, 0, none⟩, .string t0), (⟨w.heap.size, 1, none⟩, .string t1), (⟨w.heap.size, 2, none⟩, .string t2), (⟨w.heap.size, 3, none⟩, .string t3), (⟨w.heap.size, 4, none⟩, .string t4), (⟨w.heap.size, 5, none⟩, .string t5)] (v := .bool false) (Held.put [(⟨B, 0, none⟩, .string F0), (⟨B, 1, none⟩, .string F1), (⟨B, 2, none⟩, .string F2), (⟨B, 3, none⟩, .string F3), (⟨B, 4, none⟩, .string F4), (⟨B, 5, none⟩, .string t5), (⟨B, 6, none⟩, .bool false), (⟨A1, 0, none⟩, .string u0), (⟨A1, 1, none⟩, .string u1), (⟨A1, 2, none⟩, .string u2), (⟨A1, 3, none⟩, .string u3), (⟨A1, 4, none⟩, .string u4), (⟨A1, 5, none⟩, .string u5), (⟨w.heap.size, 0, none⟩, .string t0), (⟨w.heap.size, 1, none⟩, .string t1), (⟨w.heap.size, 2, none⟩, .string t2), (⟨w.heap.size, 3, none⟩, .string t3), (⟨w.heap.size, 4, none⟩, .string t4), (⟨w.heap.size, 5, none⟩, .string t5)] I.out (v := .string ⟨#[]⟩) (by simp) (by simpa using n5) (by simp only [List.forall_mem_cons]; simp)) (by simp) (by simpa using n5) (by simp only [List.forall_mem_cons]; simp)).drew, Lib.hid ⟨rfl, by simp [HE.out], by simp [agree]⟩⟩
        | true =>
          go_wp2_with fail
          go_region
          go_wp2_with fail
          go_meet
          exact ⟨t5, (u5.toList == t5.toList), true, rfl, by exact Lib.hid (Held.put [(⟨B, 0, none⟩, .string F0), (⟨B, 1, none⟩, .string F1), (⟨B, 2, none⟩, .string F2), (⟨B, 3, none⟩, .string F3), (⟨B, 4, none⟩, .string F4), (⟨B, 5, none⟩, .string t5), (⟨B, 6, none⟩, .bool true), (⟨A1, 0, none⟩, .string u0), (⟨A1, 1, none⟩, .string u1), (⟨A1, 2, none⟩, .string u2), (⟨A1, 3, none⟩, .string u3), (⟨A1, 4, none⟩, .string u4), (⟨A1, 5, none⟩, .string u5), (⟨w.heap.size, 0, none⟩, .string t0), (⟨w.heap.size, 1, none⟩, .string t1), (⟨w.heap.size, 2, none⟩, .string t2), (⟨w.heap.size, 3, none⟩, .string t3), (⟨w.heap.size, 4, none⟩, .string t4), (⟨w.heap.size, 5, none⟩, .string t5)] (v := .bool false) (Held.put [(⟨B, 0, none⟩, .string F0), (⟨B, 1, none⟩, .string F1), (⟨B, 2, none⟩, .string F2), (⟨B, 3, none⟩, .string F3), (⟨B, 4, none⟩, .string F4), (⟨B, 5, none⟩, .string t5), (⟨B, 6, none⟩, .bool false), (⟨A1, 0, none⟩, .string u0), (⟨A1, 1, none⟩, .string u1), (⟨A1, 2, none⟩, .string u2), (⟨A1, 3, none⟩, .string u3), (⟨A1, 4, none⟩, .string u4), (⟨A1, 5, none⟩, .string u5), (⟨w.heap.size, 0, none⟩, .string t0), (⟨w.heap.size, 1, none⟩, .string t1), (⟨w.heap.size, 2, none⟩, .string t2), (⟨w.heap.size, 3, none⟩, .string t3), (⟨w.heap.size, 4, none⟩, .string t4), (⟨w.heap.size, 5, none⟩, .string t5)] I.out (v := .string ⟨#[]⟩) (by simp) (by simpa using n5) (by simp only [List.forall_mem_cons]; simp)) (by simp) (by simpa using n5) (by simp only [List.forall_mem_cons]; simp)).drew, Lib.hid ⟨rfl, by simp [HE.out], by simp [agree]⟩⟩
      · obtain ⟨e1, e2⟩ := Who.emp_false he
        have HE := Lib.hid he
        clear he
        cases S4 with
        | false =>
          go_wp2_with fail
          go_region
          go_wp2_with fail
          go_meet
          exact ⟨t5, false, false, rfl, by exact Lib.hid (Held.put [(⟨B, 0, none⟩, .string F0), (⟨B, 1, none⟩, .string F1), (⟨B, 2, none⟩, .string F2), (⟨B, 3, none⟩, .string F3), (⟨B, 4, none⟩, .string F4), (⟨B, 5, none⟩, .string t5), (⟨B, 6, none⟩, .bool false), (⟨A1, 0, none⟩, .string u0), (⟨A1, 1, none⟩, .string u1), (⟨A1, 2, none⟩, .string u2), (⟨A1, 3, none⟩, .string u3), (⟨A1, 4, none⟩, .string u4), (⟨A1, 5, none⟩, .string u5), (⟨w.heap.size, 0, none⟩, .string t0), (⟨w.heap.size, 1, none⟩, .string t1), (⟨w.heap.size, 2, none⟩, .string t2), (⟨w.heap.size, 3, none⟩, .string t3), (⟨w.heap.size, 4, none⟩, .string t4), (⟨w.heap.size, 5, none⟩, .string t5)] (v := .bool false) (Held.put [(⟨B, 0, none⟩, .string F0), (⟨B, 1, none⟩, .string F1), (⟨B, 2, none⟩, .string F2), (⟨B, 3, none⟩, .string F3), (⟨B, 4, none⟩, .string F4), (⟨B, 5, none⟩, .string t5), (⟨B, 6, none⟩, .bool false), (⟨A1, 0, none⟩, .string u0), (⟨A1, 1, none⟩, .string u1), (⟨A1, 2, none⟩, .string u2), (⟨A1, 3, none⟩, .string u3), (⟨A1, 4, none⟩, .string u4), (⟨A1, 5, none⟩, .string u5), (⟨w.heap.size, 0, none⟩, .string t0), (⟨w.heap.size, 1, none⟩, .string t1), (⟨w.heap.size, 2, none⟩, .string t2), (⟨w.heap.size, 3, none⟩, .string t3), (⟨w.heap.size, 4, none⟩, .string t4), (⟨w.heap.size, 5, none⟩, .string t5)] I.out (v := .string ⟨#[]⟩) (by simp) (by simpa using n5) (by simp only [List.forall_mem_cons]; simp)) (by simp) (by simpa using n5) (by simp only [List.forall_mem_cons]; simp)).drew, Lib.hid ⟨rfl, by simp [HE.out], by simp [agree]⟩⟩
        | true =>
          go_wp2_with fail
          go_region
          go_wp2_with fail
          go_meet
          exact ⟨t5, (u5.toList == t5.toList), false, rfl, by exact Lib.hid (Held.put [(⟨B, 0, none⟩, .string F0), (⟨B, 1, none⟩, .string F1), (⟨B, 2, none⟩, .string F2), (⟨B, 3, none⟩, .string F3), (⟨B, 4, none⟩, .string F4), (⟨B, 5, none⟩, .string t5), (⟨B, 6, none⟩, .bool false), (⟨A1, 0, none⟩, .string u0), (⟨A1, 1, none⟩, .string u1), (⟨A1, 2, none⟩, .string u2), (⟨A1, 3, none⟩, .string u3), (⟨A1, 4, none⟩, .string u4), (⟨A1, 5, none⟩, .string u5), (⟨w.heap.size, 0, none⟩, .string t0), (⟨w.heap.size, 1, none⟩, .string t1), (⟨w.heap.size, 2, none⟩, .string t2), (⟨w.heap.size, 3, none⟩, .string t3), (⟨w.heap.size, 4, none⟩, .string t4), (⟨w.heap.size, 5, none⟩, .string t5)] (v := .bool false) (Held.put [(⟨B, 0, none⟩, .string F0), (⟨B, 1, none⟩, .string F1), (⟨B, 2, none⟩, .string F2), (⟨B, 3, none⟩, .string F3), (⟨B, 4, none⟩, .string F4), (⟨B, 5, none⟩, .string t5), (⟨B, 6, none⟩, .bool false), (⟨A1, 0, none⟩, .string u0), (⟨A1, 1, none⟩, .string u1), (⟨A1, 2, none⟩, .string u2), (⟨A1, 3, none⟩, .string u3), (⟨A1, 4, none⟩, .string u4), (⟨A1, 5, none⟩, .string u5), (⟨w.heap.size, 0, none⟩, .string t0), (⟨w.heap.size, 1, none⟩, .string t1), (⟨w.heap.size, 2, none⟩, .string t2), (⟨w.heap.size, 3, none⟩, .string t3), (⟨w.heap.size, 4, none⟩, .string t4), (⟨w.heap.size, 5, none⟩, .string t5)] I.out (v := .string ⟨#[]⟩) (by simp) (by simpa using n5) (by simp only [List.forall_mem_cons]; simp)) (by simp) (by simpa using n5) (by simp only [List.forall_mem_cons]; simp)).drew, Lib.hid ⟨rfl, by simp [HE.out], by simp [agree]⟩⟩
  clear I f0 f1 f2 f3 f4 f5 f6 g0 g1 g2 g3 g4 g5 g6 p0 p1 p2 p3 p4 p5 k0 k1 k2 k3 k4 k5
  obtain ⟨F5, S5, b, rfl, I, E5⟩ := hcut
  have h1 := own_right c0 c1 c2 c3 c4 c5 t0 t1 t2 t3 t4 t5 HG.out HBH.out.1 HBH.out.2.1 HBH.out.2.2
  have h2 := own_match c0 c1 c2 c3 c4 c5 t0 t1 t2 t3 t4 t5 t0 t1 t2 t3 t4 t5 HG.out
  have h3 := own_match c0 c1 c2 c3 c4 c5 t0 t1 t2 t3 t4 t5 u0 u1 u2 u3 u4 u5 HG.out
  have h4 := own_none u0 u1 u2 u3 u4 u5
  simp only [agree_self, Bool.and_self] at h2
  have HS : Hid ((agree c0 u0 t0 && agree c1 u1 t1 && agree c2 u2 t2 && agree c3 u3 t3 && agree c4 u4 t4 && agree c5 u5 t5) = S5) := Lib.hid (by
    rw [E5.out.2.2, E4.out.2, E3.out.2, E2.out.2, E1.out.2, E0.out.2, Bool.true_and])
  rw [HS.out] at h3
  rw [← E0.out.1, ← E1.out.1, ← E2.out.1, ← E3.out.1, ← E4.out.1, ← E5.out.1, ← E5.out.2.1] at h1 h2 h3
  unfold filV at h1
  unfold filV tupV at h2 h3 h4
  have H1 := Lib.hid h1
  have H2 := Lib.hid h2
  have H3 := Lib.hid h3
  have H4 := Lib.hid h4
  clear h1 h2 h3 h4 HS HBH C0 C1 C2 C3 C4 C5 E0 E1 E2 E3 E4 E5
  have q := I.out.all
  simp only [List.forall_mem_cons] at q
  obtain ⟨⟨-, f0, g0⟩, ⟨-, f1, g1⟩, ⟨-, f2, g2⟩, ⟨-, f3, g3⟩, ⟨-, f4, g4⟩, ⟨-, f5, g5⟩, ⟨-, f6, g6⟩, ⟨-, p0, -⟩, ⟨-, p1, -⟩, ⟨-, p2, -⟩, ⟨-, p3, -⟩, ⟨-, p4, -⟩, ⟨-, p5, -⟩, ⟨-, k0, -⟩, ⟨-, k1, -⟩, ⟨-, k2, -⟩, ⟨-, k3, -⟩, ⟨-, k4, -⟩, ⟨-, k5, -⟩, -⟩ := q
  go_wp2_with fail
  (with_reducible refine (H1.out _).mono ?_)
  rintro e y1 ⟨rfl, b1⟩
  replace I := Lib.hid (Held.step b1 I.out)
  clear b1 f0 f1 f2 f3 f4 f5 f6 g0 g1 g2 g3 g4 g5 g6 p0 p1 p2 p3 p4 p5 k0 k1 k2 k3 k4 k5
  have q := I.out.all
  simp only [List.forall_mem_cons] at q
  obtain ⟨⟨-, f0, g0⟩, ⟨-, f1, g1⟩, ⟨-, f2, g2⟩, ⟨-, f3, g3⟩, ⟨-, f4, g4⟩, ⟨-, f5, g5⟩, ⟨-, f6, g6⟩, ⟨-, p0, -⟩, ⟨-, p1, -⟩, ⟨-, p2, -⟩, ⟨-, p3, -⟩, ⟨-, p4, -⟩, ⟨-, p5, -⟩, ⟨-, k0, -⟩, ⟨-, k1, -⟩, ⟨-, k2, -⟩, ⟨-, k3, -⟩, ⟨-, k4, -⟩, ⟨-, k5, -⟩, -⟩ := q
  go_wp2_with fail
  (with_reducible refine (H2.out _).mono ?_)
  rintro e y2 ⟨rfl, b2⟩
  replace I := Lib.hid (Held.step b2 I.out)
  clear b2 f0 f1 f2 f3 f4 f5 f6 g0 g1 g2 g3 g4 g5 g6 p0 p1 p2 p3 p4 p5 k0 k1 k2 k3 k4 k5
  have q := I.out.all
  simp only [List.forall_mem_cons] at q
  obtain ⟨⟨-, f0, g0⟩, ⟨-, f1, g1⟩, ⟨-, f2, g2⟩, ⟨-, f3, g3⟩, ⟨-, f4, g4⟩, ⟨-, f5, g5⟩, ⟨-, f6, g6⟩, ⟨-, p0, -⟩, ⟨-, p1, -⟩, ⟨-, p2, -⟩, ⟨-, p3, -⟩, ⟨-, p4, -⟩, ⟨-, p5, -⟩, ⟨-, k0, -⟩, ⟨-, k1, -⟩, ⟨-, k2, -⟩, ⟨-, k3, -⟩, ⟨-, k4, -⟩, ⟨-, k5, -⟩, -⟩ := q
  go_wp2_with fail
  (with_reducible refine (H3.out _).mono ?_)
  rintro e y3 ⟨rfl, b3⟩
  replace I := Lib.hid (Held.step b3 I.out)
  clear b3 f0 f1 f2 f3 f4 f5 f6 g0 g1 g2 g3 g4 g5 g6 p0 p1 p2 p3 p4 p5 k0 k1 k2 k3 k4 k5
  have q := I.out.all
  simp only [List.forall_mem_cons] at q
  obtain ⟨⟨-, f0, g0⟩, ⟨-, f1, g1⟩, ⟨-, f2, g2⟩, ⟨-, f3, g3⟩, ⟨-, f4, g4⟩, ⟨-, f5, g5⟩, ⟨-, f6, g6⟩, ⟨-, p0, -⟩, ⟨-, p1, -⟩, ⟨-, p2, -⟩, ⟨-, p3, -⟩, ⟨-, p4, -⟩, ⟨-, p5, -⟩, ⟨-, k0, -⟩, ⟨-, k1, -⟩, ⟨-, k2, -⟩, ⟨-, k3, -⟩, ⟨-, k4, -⟩, ⟨-, k5, -⟩, -⟩ := q
  go_wp2_with fail
  (with_reducible refine (H4.out _).mono ?_)
  rintro e y4 ⟨rfl, b4⟩
  replace I := Lib.hid (Held.step b4 I.out)
  clear b4 f0 f1 f2 f3 f4 f5 f6 g0 g1 g2 g3 g4 g5 g6 p0 p1 p2 p3 p4 p5 k0 k1 k2 k3 k4 k5
  go_wp2
  go_ret
  exact ⟨by simp, I.out.below⟩
set_option maxHeartbeats 2000000 in
set_option maxRecDepth 100000 in
theorem walk_bad1 (t0 t1 t2 t3 t4 t5 u0 u1 u2 u3 u4 u5 : ByteArray) (z : Int) (w : World) (hg : goodB (t0.data.toList, t1.data.toList, t2.data.toList) (t3.data.toList, t4.data.toList, t5.data.toList) = false) :
    Calls Try.prog 5 #[tupV t0 t1 t2 t3 t4 t5, tupV u0 u1 u2 u3 u4 u5, .int .u8 z] w fun e w' => e = .returned (.bool true) ∧ Below w.heap.size w w' := by
  have HA := Lib.hid (fun w => awake_any w)
  have h1 := fun w => good_free t0 t1 t2 t3 t4 t5 w
  rw [hg] at h1
  unfold tupV at *
  have H1 := Lib.hid h1
  have HH := Lib.hid (Held.more6 (Held.one6 w 25 (.string t0) (.string t1) (.string t2) (.string t3) (.string t4) (.string t5)) 25 (.string u0) (.string u1) (.string u2) (.string u3) (.string u4) (.string u5))
  clear h1 hg
  go_enter Try.func5, Try.ntmps5
  go_wp2_with fail
  refine (HA.out _).mono ?_
  rintro e w1 ⟨rfl, b1⟩
  have I1 := Held.step b1 HH.out
  simp only [World.size_alloc] at I1
  have q := I1.all
  simp only [List.forall_mem_cons] at q
  obtain ⟨⟨-, p0, -⟩, ⟨-, p1, -⟩, ⟨-, p2, -⟩, ⟨-, p3, -⟩, ⟨-, p4, -⟩, ⟨-, p5, -⟩, ⟨-, k0, -⟩, ⟨-, k1, -⟩, ⟨-, k2, -⟩, ⟨-, k3, -⟩, ⟨-, k4, -⟩, ⟨-, k5, -⟩, -⟩ := q
  clear b1 HH
  go_wp2_with fail
  (with_reducible refine (H1.out _).mono ?_)
  rintro e w2 ⟨rfl, b2⟩
  have I2 := Held.step b2 I1
  clear b2 I1 p0 p1 p2 p3 p4 p5 k0 k1 k2 k3 k4 k5
  go_wp2_with fail
  refine (HA.out _).mono ?_
  rintro e w4 ⟨rfl, b4⟩
  have I4 := Held.step b4 I2
  clear b4
  go_wp2
  go_ret
  exact ⟨rfl, I4.below⟩
set_option maxHeartbeats 2000000 in
set_option maxRecDepth 100000 in
theorem walk_bad2 (t0 t1 t2 t3 t4 t5 u0 u1 u2 u3 u4 u5 : ByteArray) (z : Int) (w : World) (hg : goodB (t0.data.toList, t1.data.toList, t2.data.toList) (t3.data.toList, t4.data.toList, t5.data.toList) = true) (hu : goodB (u0.data.toList, u1.data.toList, u2.data.toList) (u3.data.toList, u4.data.toList, u5.data.toList) = false) :
    Calls Try.prog 5 #[tupV t0 t1 t2 t3 t4 t5, tupV u0 u1 u2 u3 u4 u5, .int .u8 z] w fun e w' => e = .returned (.bool true) ∧ Below w.heap.size w w' := by
  have HA := Lib.hid (fun w => awake_any w)
  have h1 := fun w => good_free t0 t1 t2 t3 t4 t5 w
  have h2 := fun w => good_free u0 u1 u2 u3 u4 u5 w
  rw [hg] at h1
  rw [hu] at h2
  unfold tupV at *
  have H1 := Lib.hid h1
  have H2 := Lib.hid h2
  have HH := Lib.hid (Held.more6 (Held.one6 w 25 (.string t0) (.string t1) (.string t2) (.string t3) (.string t4) (.string t5)) 25 (.string u0) (.string u1) (.string u2) (.string u3) (.string u4) (.string u5))
  clear h1 h2 hg hu
  go_enter Try.func5, Try.ntmps5
  go_wp2_with fail
  refine (HA.out _).mono ?_
  rintro e w1 ⟨rfl, b1⟩
  have I1 := Held.step b1 HH.out
  simp only [World.size_alloc] at I1
  have q := I1.all
  simp only [List.forall_mem_cons] at q
  obtain ⟨⟨-, p0, -⟩, ⟨-, p1, -⟩, ⟨-, p2, -⟩, ⟨-, p3, -⟩, ⟨-, p4, -⟩, ⟨-, p5, -⟩, ⟨-, k0, -⟩, ⟨-, k1, -⟩, ⟨-, k2, -⟩, ⟨-, k3, -⟩, ⟨-, k4, -⟩, ⟨-, k5, -⟩, -⟩ := q
  clear b1 HH
  go_wp2_with fail
  (with_reducible refine (H1.out _).mono ?_)
  rintro e w2 ⟨rfl, b2⟩
  have I2 := Held.step b2 I1
  clear b2 I1 p0 p1 p2 p3 p4 p5 k0 k1 k2 k3 k4 k5
  have q := I2.all
  simp only [List.forall_mem_cons] at q
  obtain ⟨⟨-, p0, -⟩, ⟨-, p1, -⟩, ⟨-, p2, -⟩, ⟨-, p3, -⟩, ⟨-, p4, -⟩, ⟨-, p5, -⟩, ⟨-, k0, -⟩, ⟨-, k1, -⟩, ⟨-, k2, -⟩, ⟨-, k3, -⟩, ⟨-, k4, -⟩, ⟨-, k5, -⟩, -⟩ := q
  go_wp2_with fail
  (with_reducible refine (H2.out _).mono ?_)
  rintro e w3 ⟨rfl, b3⟩
  have I3 := Held.step b3 I2
  clear b3 I2 p0 p1 p2 p3 p4 p5 k0 k1 k2 k3 k4 k5
  go_wp2_with fail
  refine (HA.out _).mono ?_
  rintro e w4 ⟨rfl, b4⟩
  have I4 := Held.step b4 I3
  clear b4
  go_wp2
  go_ret
  exact ⟨rfl, I4.below⟩
theorem walk (t0 t1 t2 t3 t4 t5 u0 u1 u2 u3 u4 u5 : ByteArray) (z : Int) (w : World) (hz : (Lit.int .u8 z).wf = true) :
    Calls Try.prog 5 #[tupV t0 t1 t2 t3 t4 t5, tupV u0 u1 u2 u3 u4 u5, .int .u8 z] w fun e w' => e = .returned (.bool true) ∧ Below w.heap.size w w' := by
  have hz' : 0 ≤ z ∧ z ≤ 255 := by
    simp [Lit.wf, IntKind.min, IntKind.max, IntKind.bits, IntKind.signed] at hz
    omega
  cases hg : goodB (t0.data.toList, t1.data.toList, t2.data.toList) (t3.data.toList, t4.data.toList, t5.data.toList) with
  | false => exact walk_bad1 _ _ _ _ _ _ _ _ _ _ _ _ _ _ hg
  | true =>
    cases hu : goodB (u0.data.toList, u1.data.toList, u2.data.toList) (u3.data.toList, u4.data.toList, u5.data.toList) with
    | false => exact walk_bad2 _ _ _ _ _ _ _ _ _ _ _ _ _ _ hg hu
    | true => exact walk_good _ _ _ _ _ _ _ _ _ _ _ _ _ _ hz'.1 hz'.2 hg hu
end LawBOwn
end Go.Proofs.Ytbgbkhjcfchamaa
