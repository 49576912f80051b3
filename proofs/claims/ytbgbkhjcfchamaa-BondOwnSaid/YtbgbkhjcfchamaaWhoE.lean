/-
  Layer 2 (who), fifth part: package who's Read and ReadObject.
-/
import Derived.Test.YtbgbkhjcfchamaaWhoD
namespace Go.Proofs.Ytbgbkhjcfchamaa
open Go.RowKit
namespace Who

/-- What Read answers. -/
def readV : Option (List UInt8 × List UInt8 × List UInt8) → Value
  | some x => .tuple #[subjV x, .int .i64 0]
  | none => .tuple #[.agg #[.string ⟨#[]⟩, .string ⟨#[]⟩, .string ⟨#[]⟩], .int .i64 2]

theorem Held.one3 (w : World) (T : TypeId) (a0 a1 a2 : Value) :
    Held w [(⟨w.heap.size, 0, none⟩, a0), (⟨w.heap.size, 1, none⟩, a1), (⟨w.heap.size, 2, none⟩, a2)] (w.alloc (.cells #[a0, a1, a2] T)) := by
  refine ⟨((Below.refl _ _).alloc (Nat.le_refl _) _), ?_⟩
  simp only [List.forall_mem_cons]
  simp

theorem Held.more3 {w x : World} {L : List (Addr × Value)} (h : Held w L x) (T : TypeId) (b0 b1 b2 : Value) :
    Held w ((⟨x.heap.size, 0, none⟩, b0) :: (⟨x.heap.size, 1, none⟩, b1) :: (⟨x.heap.size, 2, none⟩, b2) :: L) (x.alloc (.cells #[b0, b1, b2] T)) := by
  refine ⟨h.1.alloc h.1.size _, ?_⟩
  have hs := (Held.step ((Below.refl x.heap.size x).alloc (Nat.le_refl _) (.cells #[b0, b1, b2] T)) h).2
  simp only [List.forall_mem_cons]
  refine ⟨?_, ?_, ?_, hs⟩ <;> simp
theorem Held.more2 {w x : World} {L : List (Addr × Value)} (h : Held w L x) (T : TypeId) (b0 b1 : Value) :
    Held w ((⟨x.heap.size, 0, none⟩, b0) :: (⟨x.heap.size, 1, none⟩, b1) :: L) (x.alloc (.cells #[b0, b1] T)) := by
  refine ⟨h.1.alloc h.1.size _, ?_⟩
  have hs := (Held.step ((Below.refl x.heap.size x).alloc (Nat.le_refl _) (.cells #[b0, b1] T)) h).2
  simp only [List.forall_mem_cons]
  refine ⟨?_, ?_, hs⟩ <;> simp

set_option maxHeartbeats 4000000 in
theorem read_any (s : ByteArray) (w : World) (hs : s.size ≤ 4000000) :
    Calls Try.prog 21 #[.string s] w fun e w' => e = .returned (readV (read s.data.toList)) ∧ Below w.heap.size w w' := by
  have h1 := fun w => split_any s w hs
  have hl := sp_len s.data.toList
  rw [← Lib.size_eq] at hl
  have hr := read_sp s.data.toList
  generalize sp s.data.toList = x at *
  obtain ⟨t, i, r⟩ := x
  unfold subjV at h1
  dsimp only at hl hr h1
  have H1 := Lib.hid h1
  have h2 := fun w => subj_any (bs t) (bs i) (bs r) w (by rw [bs_size]; omega) (by rw [bs_size]; omega) (by rw [bs_size]; omega)
  simp only [bs_list, subj_eq] at h2
  by_cases hk : kind t i r = 0
  · rw [if_pos (Or.inl hk)] at hr
    have HR := Lib.hid hr
    rw [show (kind t i r != 0) = false by simp [hk]] at h2
    have H2 := Lib.hid h2
    clear h1 h2 hr hl hk
    go_enter Try.func21, Try.ntmps21
    go_wp2_with fail
    refine (H1.out _).mono ?_
    rintro e w1 ⟨rfl, b1⟩
    have I1 := Held.step b1 (Held.one3 w _ _ _ _)
    clear b1
    go_wp2_with fail
    refine (H2.out _).mono ?_
    rintro e w2 ⟨rfl, b2⟩
    have I2 := Held.step b2 (I1.more3 _ _ _ _)
    have q := I2.all
    simp only [List.forall_mem_cons] at q
    obtain ⟨⟨_, k0, f0⟩, ⟨_, k1, f1⟩, ⟨_, k2, f2⟩, ⟨_, k3, f3⟩, ⟨_, k4, f4⟩, ⟨_, k5, f5⟩, _⟩ := q
    clear b2
    go_wp2
    refine bodyPost_ret (v := readV none) (by simp [results, Try.results21, go_sem, readV, k3, k4, k5]) rfl ⟨?_, ?_⟩
    · rw [HR.out]
    · exact (((Held.below I2).setCell (by simp) _).setCell (by simp) _).setCell (by simp) _
  · rw [show (kind t i r != 0) = true by simp [hk]] at h2
    have H2 := Lib.hid h2
    have h3 := fun w => text_any (bs t) (bs i) (bs r) w (by rw [bs_size]; omega) (by rw [bs_size]; omega) (by rw [bs_size]; omega)
    have hv : (textV (bs t) (bs i) (bs r)).data.toList = text t i r := by rw [textV, bs_list, bs_list, bs_list, bs_list]
    generalize textV (bs t) (bs i) (bs r) = v at *
    have H3 := Lib.hid h3
    by_cases he : text t i r = s.data.toList
    · have hvs : v = s := eq_of_list (hv.trans he)
      subst hvs
      have H4 := Lib.hid (fun w => of_any (bs t) (bs i) (bs r) w (by rw [bs_size]; omega) (by rw [bs_size]; omega) (by rw [bs_size]; omega))
      rw [if_neg (by rw [not_or, Decidable.not_not]; exact ⟨hk, he⟩)] at hr
      have HR := Lib.hid hr
      clear h1 h2 h3 hr hl hk hv he
      go_enter Try.func21, Try.ntmps21
      go_wp2_with fail
      refine (H1.out _).mono ?_
      rintro e w1 ⟨rfl, b1⟩
      have I1 := Held.step b1 (Held.one3 w _ _ _ _)
      clear b1
      go_wp2_with fail
      refine (H2.out _).mono ?_
      rintro e w2 ⟨rfl, b2⟩
      have I2 := Held.step b2 (I1.more3 _ _ _ _)
      have q := I2.all
      simp only [List.forall_mem_cons] at q
      obtain ⟨⟨_, k0, f0⟩, ⟨_, k1, f1⟩, ⟨_, k2, f2⟩, _⟩ := q
      clear b2
      go_wp2_with fail
      refine (H3.out _).mono ?_
      rintro e w3 ⟨rfl, b3⟩
      have I3 := Held.step b3 I2
      have q := I3.all
      simp only [List.forall_mem_cons] at q
      clear b3 k0 k1 k2 f0 f1 f2
      obtain ⟨⟨_, k0, f0⟩, ⟨_, k1, f1⟩, ⟨_, k2, f2⟩, _⟩ := q
      go_wp2_with fail
      refine (H4.out _).mono ?_
      rintro e w4 ⟨rfl, b4⟩
      have I4 := Held.step b4 I3
      have q := I4.all
      simp only [List.forall_mem_cons] at q
      clear b4 k0 k1 k2 f0 f1 f2
      obtain ⟨⟨_, k0, f0⟩, ⟨_, k1, f1⟩, ⟨_, k2, f2⟩, ⟨_, k3, f3⟩, ⟨_, k4, f4⟩, ⟨_, k5, f5⟩, _⟩ := q
      go_wp2
      refine bodyPost_ret (v := readV (some (t, i, r))) (by simp [results, Try.results21, go_sem, readV, subjV, k3, k4, k5]) rfl ⟨?_, ?_⟩
      · rw [HR.out]
      · exact (((Held.below I4).setCell (by simp) _).setCell (by simp) _).setCell (by simp) _
    · have hne : (v.toList == s.toList) = false := by
        rw [beq_bytes, hv]; simpa using he
      rw [if_pos (Or.inr he)] at hr
      have HR := Lib.hid hr
      clear h1 h2 h3 hr hl hk hv he
      go_enter Try.func21, Try.ntmps21
      go_wp2_with fail
      refine (H1.out _).mono ?_
      rintro e w1 ⟨rfl, b1⟩
      have I1 := Held.step b1 (Held.one3 w _ _ _ _)
      clear b1
      go_wp2_with fail
      refine (H2.out _).mono ?_
      rintro e w2 ⟨rfl, b2⟩
      have I2 := Held.step b2 (I1.more3 _ _ _ _)
      have q := I2.all
      simp only [List.forall_mem_cons] at q
      obtain ⟨⟨_, k0, f0⟩, ⟨_, k1, f1⟩, ⟨_, k2, f2⟩, _⟩ := q
      clear b2
      go_wp2_with fail
      refine (H3.out _).mono ?_
      rintro e w3 ⟨rfl, b3⟩
      have I3 := Held.step b3 I2
      have q := I3.all
      simp only [List.forall_mem_cons] at q
      clear b3 k0 k1 k2 f0 f1 f2
      obtain ⟨⟨_, k0, f0⟩, ⟨_, k1, f1⟩, ⟨_, k2, f2⟩, ⟨_, k3, f3⟩, ⟨_, k4, f4⟩, ⟨_, k5, f5⟩, _⟩ := q
      go_wp2
      refine bodyPost_ret (v := readV none) (by simp [results, Try.results21, go_sem, readV, k3, k4, k5]) rfl ⟨?_, ?_⟩
      · rw [HR.out]
      · exact (((Held.below I3).setCell (by simp) _).setCell (by simp) _).setCell (by simp) _
end Who
end Go.Proofs.Ytbgbkhjcfchamaa
