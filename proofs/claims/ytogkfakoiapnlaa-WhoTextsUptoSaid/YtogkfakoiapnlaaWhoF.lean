/-
  Layer 2 (who), sixth part: package who's ReadObject; the fixed fact with which each statement of layer 2 begins.
-/
import Derived.Test.YtogkfakoiapnlaaWhoE
namespace Go.Proofs.Ytogkfakoiapnlaa
open Go.RowKit
namespace Who

/-- What ReadObject answers. -/
def readOV : Option (List UInt8 × List UInt8) → Value
  | some x => .tuple #[.agg #[.string (bs x.1), .string (bs x.2)], .int .i64 0]
  | none => .tuple #[.agg #[.string ⟨#[]⟩, .string ⟨#[]⟩], .int .i64 2]

theorem Held.one2 (w : World) (T : TypeId) (a0 a1 : Value) :
    Held w [(⟨w.heap.size, 0, none⟩, a0), (⟨w.heap.size, 1, none⟩, a1)] (w.alloc (.cells #[a0, a1] T)) := by
  refine ⟨((Below.refl _ _).alloc (Nat.le_refl _) _), ?_⟩
  simp only [List.forall_mem_cons]
  simp

set_option maxHeartbeats 4000000 in
theorem readO_any (s : ByteArray) (w : World) (hs : s.size ≤ 4000000) :
    Calls Try.prog 10 #[.string s] w fun e w' => e = .returned (readOV (readO s.data.toList)) ∧ Below w.heap.size w w' := by
  have h1 := fun w => read_any s w hs
  have hr : readO s.data.toList = readO s.data.toList := rfl
  conv at hr => rhs; unfold readO
  cases hx : read s.data.toList with
  | none =>
    rw [hx] at hr h1
    have HR := Lib.hid hr
    unfold readV at h1
    have H1 := Lib.hid h1
    clear h1 hr hx
    go_enter Try.func10, Try.ntmps10
    go_wp2_with fail
    refine (H1.out _).mono ?_
    rintro e w1 ⟨rfl, b1⟩
    have I1 := Held.step b1 (Held.one2 w _ _ _)
    clear b1
    have I2 := I1.more3 23 (.string ⟨#[]⟩) (.string ⟨#[]⟩) (.string ⟨#[]⟩)
    have q := I2.all
    simp only [List.forall_mem_cons] at q
    obtain ⟨⟨_, k0, f0⟩, ⟨_, k1, f1⟩, ⟨_, k2, f2⟩, ⟨_, k3, f3⟩, ⟨_, k4, f4⟩, _⟩ := q
    go_wp2
    refine bodyPost_ret (v := readOV none) (by simp [results, Try.results10, go_sem, readOV, k3, k4]) rfl ⟨?_, ?_⟩
    · rw [HR.out]
    · exact ((Held.below I2).setCell (by simp) _).setCell (by simp) _
  | some x =>
    obtain ⟨t, i, r⟩ := x
    have hk := (read_text hx).2
    have hl := kind_len hk
    rw [hx] at hr h1
    unfold readV subjV at h1
    dsimp only at h1 hr
    have h2 := fun w => one_any (bs t) (bs i) (bs r) w (by rw [bs_size]; omega) (by rw [bs_size]; omega)
    simp only [bs_list, one_eq] at h2
    have H1 := Lib.hid h1
    by_cases hk1 : kind t i r = 1
    · rw [show (kind t i r == 1) = true by simp [hk1]] at h2
      rw [if_pos hk1] at hr
      have HR := Lib.hid hr
      have H2 := Lib.hid h2
      clear h1 h2 hr hx hk hl hk1
      go_enter Try.func10, Try.ntmps10
      go_wp2_with fail
      refine (H1.out _).mono ?_
      rintro e w1 ⟨rfl, b1⟩
      have I1 := Held.step b1 (Held.one2 w _ _ _)
      clear b1
      go_wp2_with fail
      refine (H2.out _).mono ?_
      rintro e w2 ⟨rfl, b2⟩
      have I2 := Held.step b2 (I1.more3 _ _ _ _)
      have q := I2.all
      simp only [List.forall_mem_cons] at q
      obtain ⟨⟨_, k0, f0⟩, ⟨_, k1, f1⟩, ⟨_, k2, f2⟩, ⟨_, k3, f3⟩, ⟨_, k4, f4⟩, _⟩ := q
      clear b2
      go_wp2
      refine bodyPost_ret (v := readOV (some (t, i))) (by simp [results, Try.results10, go_sem, readOV, k3, k4]) rfl ⟨?_, ?_⟩
      · rw [HR.out]
      · exact ((Held.below I2).setCell (by simp) _).setCell (by simp) _
    · rw [show (kind t i r == 1) = false by simp [hk1]] at h2
      rw [if_neg hk1] at hr
      have HR := Lib.hid hr
      have H2 := Lib.hid h2
      clear h1 h2 hr hx hk hl hk1
      go_enter Try.func10, Try.ntmps10
      go_wp2_with fail
      refine (H1.out _).mono ?_
      rintro e w1 ⟨rfl, b1⟩
      have I1 := Held.step b1 (Held.one2 w _ _ _)
      clear b1
      go_wp2_with fail
      refine (H2.out _).mono ?_
      rintro e w2 ⟨rfl, b2⟩
      have I2 := Held.step b2 (I1.more3 _ _ _ _)
      have q := I2.all
      simp only [List.forall_mem_cons] at q
      obtain ⟨⟨_, k0, f0⟩, ⟨_, k1, f1⟩, ⟨_, k2, f2⟩, ⟨_, k3, f3⟩, ⟨_, k4, f4⟩, _⟩ := q
      clear b2
      go_wp2
      refine bodyPost_ret (v := readOV none) (by simp [results, Try.results10, go_sem, readOV, k3, k4]) rfl ⟨?_, ?_⟩
      · rw [HR.out]
      · exact ((Held.below I2).setCell (by simp) _).setCell (by simp) _

/-! ### the examples -/
theorem ex1 : read [117, 115, 101, 114, 58, 97, 110, 110] = some ([117, 115, 101, 114], [97, 110, 110], []) := by decide +kernel
theorem ex2 : read [103, 114, 111, 117, 112, 58, 101, 110, 103, 35, 109, 101, 109, 98, 101, 114] = some ([103, 114, 111, 117, 112], [101, 110, 103], [109, 101, 109, 98, 101, 114]) := by decide +kernel
theorem ex3 : read [117, 115, 101, 114, 58, 42] = some ([117, 115, 101, 114], [42], []) := by decide +kernel
theorem ex4 : readO [117, 115, 101, 114, 58, 42] = none := by decide +kernel
theorem ex5 : oneB [117, 115, 101, 114] [97, 110, 110] [] = true := by decide +kernel
theorem ex6 : setB [103, 114, 111, 117, 112] [101, 110, 103] [109, 101, 109, 98, 101, 114] = true := by decide +kernel
theorem ex7 : allB [117, 115, 101, 114] [42] [] = true := by decide +kernel

set_option maxHeartbeats 4000000 in
theorem awake_any (w : World) : Calls Try.prog 6 #[] w fun e w' => e = .returned (.bool true) ∧ Below w.heap.size w w' := by
  have h1 := fun w => read_any ⟨#[117, 115, 101, 114, 58, 97, 110, 110]⟩ w (by decide)
  have h2 := fun w => read_any ⟨#[103, 114, 111, 117, 112, 58, 101, 110, 103, 35, 109, 101, 109, 98, 101, 114]⟩ w (by decide)
  have h3 := fun w => read_any ⟨#[117, 115, 101, 114, 58, 42]⟩ w (by decide)
  have h4 := fun w => readO_any ⟨#[117, 115, 101, 114, 58, 42]⟩ w (by decide)
  have h5 := fun w => one_any (bs [117, 115, 101, 114]) (bs [97, 110, 110]) (bs []) w (by rw [bs_size]; decide) (by rw [bs_size]; decide)
  have h6 := fun w => set_any (bs [103, 114, 111, 117, 112]) (bs [101, 110, 103]) (bs [109, 101, 109, 98, 101, 114]) w (by rw [bs_size]; decide) (by rw [bs_size]; decide) (by rw [bs_size]; decide)
  have h7 := fun w => all_any (bs [117, 115, 101, 114]) (bs [42]) (bs []) w (by rw [bs_size]; decide)
  simp only [bs_list, ex1, ex2, ex3, ex4, ex5, ex6, ex7] at h1 h2 h3 h4 h5 h6 h7
  unfold readV subjV at h1 h2 h3
  unfold readOV at h4
  dsimp only at h1 h2 h3 h4
  have H1 := Lib.hid h1
  have H2 := Lib.hid h2
  have H3 := Lib.hid h3
  have H4 := Lib.hid h4
  have H5 := Lib.hid h5
  have H6 := Lib.hid h6
  have H7 := Lib.hid h7
  clear h1 h2 h3 h4 h5 h6 h7
  go_enter Try.func6, Try.ntmps6
  go_wp2_with fail
  refine (H1.out _).mono ?_
  rintro e w1 ⟨rfl, b1⟩
  have I1 : Held w [] w1 := Held.step b1 ⟨Below.refl _ _, by simp⟩
  clear b1
  go_wp2_with fail
  refine (H2.out _).mono ?_
  rintro e w2 ⟨rfl, b2⟩
  have I2 := Held.step b2 (I1.more3 _ _ _ _)
  clear b2
  go_wp2_with fail
  refine (H3.out _).mono ?_
  rintro e w3 ⟨rfl, b3⟩
  have I3 := Held.step b3 (I2.more3 _ _ _ _)
  clear b3
  go_wp2_with fail
  refine (H4.out _).mono ?_
  rintro e w4 ⟨rfl, b4⟩
  have I4 := Held.step b4 (I3.more3 _ _ _ _)
  have I5 := I4.more2 31 (.string ⟨#[]⟩) (.string ⟨#[]⟩)
  have q := I5.all
  simp only [List.forall_mem_cons] at q
  clear b4
  obtain ⟨_, _, ⟨_, k0, _⟩, ⟨_, k1, _⟩, ⟨_, k2, _⟩, ⟨_, k3, _⟩, ⟨_, k4, _⟩, ⟨_, k5, _⟩, ⟨_, k6, _⟩, ⟨_, k7, _⟩, ⟨_, k8, _⟩, _⟩ := q
  go_wp2_with fail
  refine (H5.out _).mono ?_
  rintro e w5 ⟨rfl, b5⟩
  have I6 := Held.step b5 I5
  have q := I6.all
  simp only [List.forall_mem_cons] at q
  clear b5 k0 k1 k2 k3 k4 k5 k6 k7 k8
  obtain ⟨_, _, ⟨_, k0, _⟩, ⟨_, k1, _⟩, ⟨_, k2, _⟩, ⟨_, k3, _⟩, ⟨_, k4, _⟩, ⟨_, k5, _⟩, ⟨_, k6, _⟩, ⟨_, k7, _⟩, ⟨_, k8, _⟩, _⟩ := q
  go_wp2_with fail
  refine (H6.out _).mono ?_
  rintro e w6 ⟨rfl, b6⟩
  have I7 := Held.step b6 I6
  have q := I7.all
  simp only [List.forall_mem_cons] at q
  clear b6 k0 k1 k2 k3 k4 k5 k6 k7 k8
  obtain ⟨_, _, ⟨_, k0, _⟩, ⟨_, k1, _⟩, ⟨_, k2, _⟩, ⟨_, k3, _⟩, ⟨_, k4, _⟩, ⟨_, k5, _⟩, ⟨_, k6, _⟩, ⟨_, k7, _⟩, ⟨_, k8, _⟩, _⟩ := q
  go_wp2_with fail
  refine (H7.out _).mono ?_
  rintro e w7 ⟨rfl, b7⟩
  have I8 := Held.step b7 I7
  have q := I8.all
  simp only [List.forall_mem_cons] at q
  clear b7 k0 k1 k2 k3 k4 k5 k6 k7 k8
  obtain ⟨_, _, ⟨_, k0, _⟩, ⟨_, k1, _⟩, ⟨_, k2, _⟩, ⟨_, k3, _⟩, ⟨_, k4, _⟩, ⟨_, k5, _⟩, ⟨_, k6, _⟩, ⟨_, k7, _⟩, ⟨_, k8, _⟩, _⟩ := q
  go_wp2
  go_ret
  exact ⟨rfl, I8.below⟩
end Who
end Go.Proofs.Ytogkfakoiapnlaa
