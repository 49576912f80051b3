/-
  The statement WhoReads at every text.
-/
import Derived.Test.YtogkfakoiapnlaaWhoF
import Derived.Laws.StructEq
namespace Go.Proofs.Ytogkfakoiapnlaa
open Go.RowKit
namespace LawReads
open Who

set_option maxHeartbeats 4000000 in
theorem walk (s : ByteArray) (w : World) (hs : s.size ≤ maxLen) :
    Calls Try.prog 4 #[.string s] w fun e w' => e = .returned (.bool true) ∧ Below w.heap.size w w' := by
  unfold maxLen at hs
  have HA := Lib.hid (fun w => awake_any w)
  by_cases hl : s.size ≤ 1000
  · have h1 := fun w => read_any s w (by omega)
    have h2 := fun w => readR_any s w (by omega)
    cases hx : read s.data.toList with
    | none =>
      rw [hx] at h1 h2
      unfold readV at h1
      unfold readRV at h2
      have H1 := Lib.hid h1
      have H2 := Lib.hid h2
      clear h1 h2 hx
      go_enter Try.func4, Try.ntmps4
      go_wp2_with fail
      refine (HA.out _).mono ?_
      rintro e w1 ⟨rfl, b1⟩
      have I1 : Held w [] w1 := Held.step b1 ⟨Below.refl _ _, by simp⟩
      clear b1
      go_wp2_with fail
      refine (H1.out _).mono ?_
      rintro e w2 ⟨rfl, b2⟩
      have I2 := Held.step b2 I1
      clear b2
      go_wp2_with fail
      refine (H2.out _).mono ?_
      rintro e w3 ⟨rfl, b3⟩
      have I3 := Held.step b3 (I2.more3 _ _ _ _)
      have I4 := I3.more3 23 (.string ⟨#[]⟩) (.string ⟨#[]⟩) (.string ⟨#[]⟩)
      have q := I4.all
      simp only [List.forall_mem_cons] at q
      clear b3
      obtain ⟨_, _, _, ⟨_, k0, _⟩, ⟨_, k1, _⟩, ⟨_, k2, _⟩, _⟩ := q
      go_wp2
      go_ret
      exact ⟨rfl, I4.below⟩
    | some x =>
      obtain ⟨t, i, r⟩ := x
      obtain ⟨ht, hk⟩ := read_text hx
      have hln := kind_len hk
      have h3 := fun w => text_any (bs t) (bs i) (bs r) w (by rw [bs_size]; omega) (by rw [bs_size]; omega) (by rw [bs_size]; omega)
      have hv : textV (bs t) (bs i) (bs r) = s := eq_of_list (by rw [textV, bs_list, bs_list, bs_list, bs_list, ht])
      rw [hv] at h3
      rw [hx] at h1 h2
      unfold readV subjV at h1
      unfold readRV subjV at h2
      dsimp only at h1 h2
      have H1 := Lib.hid h1
      have H2 := Lib.hid h2
      have H3 := Lib.hid h3
      clear h1 h2 h3 hx ht hk hln hv
      go_enter Try.func4, Try.ntmps4
      go_wp2_with fail
      refine (HA.out _).mono ?_
      rintro e w1 ⟨rfl, b1⟩
      have I1 : Held w [] w1 := Held.step b1 ⟨Below.refl _ _, by simp⟩
      clear b1
      go_wp2_with fail
      refine (H1.out _).mono ?_
      rintro e w2 ⟨rfl, b2⟩
      have I2 := Held.step b2 I1
      clear b2
      go_wp2_with fail
      refine (H2.out _).mono ?_
      rintro e w3 ⟨rfl, b3⟩
      have I3 := Held.step b3 (I2.more3 _ _ _ _)
      have I4 := I3.more3 23 (.string (bs t)) (.string (bs i)) (.string (bs r))
      have q := I4.all
      simp only [List.forall_mem_cons] at q
      clear b3
      obtain ⟨_, _, _, ⟨_, k0, _⟩, ⟨_, k1, _⟩, ⟨_, k2, _⟩, _⟩ := q
      go_wp2_with fail
      refine (H3.out _).mono ?_
      rintro e w4 ⟨rfl, b4⟩
      go_wp2
      go_ret
      exact ⟨by simp, (Held.step b4 I4).below⟩
  · go_enter Try.func4, Try.ntmps4
    go_wp2_with fail
    refine (HA.out _).mono ?_
    rintro e w1 ⟨rfl, b1⟩
    go_wp2_with fail
    refine (HA.out _).mono ?_
    rintro e w2 ⟨rfl, b2⟩
    replace b2 := b1.trans (b2.mono b1.size)
    go_wp2
    go_ret
    exact ⟨rfl, b2⟩
end LawReads
end Go.Proofs.Ytogkfakoiapnlaa
