/-
  Layer 2 (who), sixth part: package who's ReadObject.
-/
import Derived.Test.YtbgbkhjcfchamaaWhoE
namespace Go.Proofs.Ytbgbkhjcfchamaa
open Go.RowKit
namespace Who

/-- What ReadObject answers. -/
def readOV : Option (List UInt8 × List UInt8) → Value
  | some x => .tuple #[.agg #[.string (bs x.1), .string (bs x.2)], .int .i64 0]
  | none => .tuple #[.agg #[.string ⟨#[]⟩, .string ⟨#[]⟩], .int .i64 2]

theorem Held.one2 (w : World) (T : TypeId) (a0 a1 : Value) :
    Held w [(⟨w.heap.size, 0, none⟩, a0), (⟨w.heap.size, 1, none⟩, a1)] (w.alloc (.cells #[a0, a1] T)) := by
  refine ⟨((Below.refl _ _).alloc (Nat.le_refl _) _), ?_⟩
  simp only [List.forall_mem_cons]
  simp

set_option maxHeartbeats 4000000 in
theorem readO_any (s : ByteArray) (w : World) (hs : s.size ≤ 4000000) :
    Calls Try.prog 20 #[.string s] w fun e w' => e = .returned (readOV (readO s.data.toList)) ∧ Below w.heap.size w w' := by
  have h1 := fun w => read_any s w hs
  have hr : readO s.data.toList = readO s.data.toList := rfl
  conv at hr => rhs; unfold readO
  cases hx : read s.data.toList with
  | none =>
    rw [hx] at hr h1
    have HR := Lib.hid hr
    unfold readV at h1
    have H1 := Lib.hid h1
    clear h1 hr hx
    go_enter Try.func20, Try.ntmps20
    go_wp2_with fail
    refine (H1.out _).mono ?_
    rintro e w1 ⟨rfl, b1⟩
    have I1 := Held.step b1 (Held.one2 w _ _ _)
    clear b1
    have I2 := I1.more3 23 (.string ⟨#[]⟩) (.string ⟨#[]⟩) (.string ⟨#[]⟩)
    have q := I2.all
    simp only [List.forall_mem_cons] at q
    obtain ⟨⟨_, k0, f0⟩, ⟨_, k1, f1⟩, ⟨_, k2, f2⟩, ⟨_, k3, f3⟩, ⟨_, k4, f4⟩, _⟩ := q
    go_wp2
    refine bodyPost_ret (v := readOV none) (by simp [results, Try.results20, go_sem, readOV, k3, k4]) rfl ⟨?_, ?_⟩
    · rw [HR.out]
    · exact ((Held.below I2).setCell (by simp) _).setCell (by simp) _
  | some x =>
    obtain ⟨t, i, r⟩ := x
    have hk := (read_text hx).2
    have hl := kind_len hk
    rw [hx] at hr h1
    unfold readV subjV at h1
    dsimp only at h1 hr
    have h2 := fun w => one_any (bs t) (bs i) (bs r) w (by rw [bs_size]; omega) (by rw [bs_size]; omega)
    simp only [bs_list, one_eq] at h2
    have H1 := Lib.hid h1
    by_cases hk1 : kind t i r = 1
    · rw [show (kind t i r == 1) = true by simp [hk1]] at h2
      rw [if_pos hk1] at hr
      have HR := Lib.hid hr
      have H2 := Lib.hid h2
      clear h1 h2 hr hx hk hl hk1
      go_enter Try.func20, Try.ntmps20
      go_wp2_with fail
      refine (H1.out _).mono ?_
      rintro e w1 ⟨rfl, b1⟩
      have I1 := Held.step b1 (Held.one2 w _ _ _)
      clear b1
      go_wp2_with fail
      refine (H2.out _).mono ?_
      rintro e w2 ⟨rfl, b2⟩
      have I2 := Held.step b2 (I1.more3 _ _ _ _)
      have q := I2.all
      simp only [List.forall_mem_cons] at q
      obtain ⟨⟨_, k0, f0⟩, ⟨_, k1, f1⟩, ⟨_, k2, f2⟩, ⟨_, k3, f3⟩, ⟨_, k4, f4⟩, _⟩ := q
      clear b2
      go_wp2
      refine bodyPost_ret (v := readOV (some (t, i))) (by simp [results, Try.results20, go_sem, readOV, k3, k4]) rfl ⟨?_, ?_⟩
      · rw [HR.out]
      · exact ((Held.below I2).setCell (by simp) _).setCell (by simp) _
    · rw [show (kind t i r == 1) = false by simp [hk1]] at h2
      rw [if_neg hk1] at hr
      have HR := Lib.hid hr
      have H2 := Lib.hid h2
      clear h1 h2 hr hx hk hl hk1
      go_enter Try.func20, Try.ntmps20
      go_wp2_with fail
      refine (H1.out _).mono ?_
      rintro e w1 ⟨rfl, b1⟩
      have I1 := Held.step b1 (Held.one2 w _ _ _)
      clear b1
      go_wp2_with fail
      refine (H2.out _).mono ?_
      rintro e w2 ⟨rfl, b2⟩
      have I2 := Held.step b2 (I1.more3 _ _ _ _)
      have q := I2.all
      simp only [List.forall_mem_cons] at q
      obtain ⟨⟨_, k0, f0⟩, ⟨_, k1, f1⟩, ⟨_, k2, f2⟩, ⟨_, k3, f3⟩, ⟨_, k4, f4⟩, _⟩ := q
      clear b2
      go_wp2
      refine bodyPost_ret (v := readOV none) (by simp [results, Try.results20, go_sem, readOV, k3, k4]) rfl ⟨?_, ?_⟩
      · rw [HR.out]
      · exact ((Held.below I2).setCell (by simp) _).setCell (by simp) _
end Who
end Go.Proofs.Ytbgbkhjcfchamaa
