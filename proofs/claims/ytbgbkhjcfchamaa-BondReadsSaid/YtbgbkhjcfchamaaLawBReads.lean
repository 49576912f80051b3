/-
  The statement BondReads at every text.
-/
import Derived.Test.YtbgbkhjcfchamaaBondG
import Derived.Test.YtbgbkhjcfchamaaBondH
import Derived.Laws.StructEq
namespace Go.Proofs.Ytbgbkhjcfchamaa
open Go.RowKit
namespace LawBReads
open Bond
open Who (bs bs_list bs_size bs_self Held eq_of_list)

theorem good_len {x y : L3} (h : goodB x y = true) : x.1.length ≤ 16 ∧ x.2.1.length ≤ 96 ∧ x.2.2.length ≤ 16 ∧ y.1.length ≤ 16 ∧ y.2.1.length ≤ 96 ∧ y.2.2.length ≤ 16 := by
  obtain ⟨h1, h2⟩ := good_iff.1 h
  have a := Who.kind_len (t := x.1) (i := x.2.1) (r := x.2.2) (by rw [show Who.kind x.1 x.2.1 x.2.2 = 2 from h1]; decide)
  have b := Who.kind_len (t := y.1) (i := y.2.1) (r := y.2.2) h2
  exact ⟨a.1, a.2.1, a.2.2, b.1, b.2.1, b.2.2⟩

set_option maxHeartbeats 4000000 in
theorem walk (s : ByteArray) (w : World) (hs : s.size ≤ maxLen) :
    Calls Try.prog 4 #[.string s] w fun e w' => e = .returned (.bool true) ∧ Below w.heap.size w w' := by
  unfold maxLen at hs
  have HA := Lib.hid (fun w => awake_any w)
  by_cases hl : s.size ≤ 1000
  · have h1 := fun w => bread_any s w (by omega)
    have h2 := fun w => breadR_any s w (by omega)
    rw [pr_rd] at h1
    cases hx : rd s.data.toList with
    | none =>
      rw [hx] at h1 h2
      unfold prV tupV at h1
      unfold rrV tupV at h2
      dsimp only at h1 h2
      have H1 := Lib.hid h1
      have H2 := Lib.hid h2
      clear h1 h2 hx
      go_enter Try.func4, Try.ntmps4
      go_wp2_with fail
      refine (HA.out _).mono ?_
      rintro e w1 ⟨rfl, b1⟩
      have I1 : Held w [] w1 := Held.step b1 ⟨Below.refl _ _, by simp⟩
      clear b1
      go_wp2_with fail
      refine (H1.out _).mono ?_
      rintro e w2 ⟨rfl, b2⟩
      have I2 := Held.more6 (Held.step b2 I1) 25 (.string ⟨#[]⟩) (.string ⟨#[]⟩) (.string ⟨#[]⟩) (.string ⟨#[]⟩) (.string ⟨#[]⟩) (.string ⟨#[]⟩)
      clear b2
      go_wp2_with fail
      refine (H2.out _).mono ?_
      rintro e w3 ⟨rfl, b3⟩
      have I3 := Held.more6 (Held.step b3 I2) 25 (.string ⟨#[]⟩) (.string ⟨#[]⟩) (.string ⟨#[]⟩) (.string ⟨#[]⟩) (.string ⟨#[]⟩) (.string ⟨#[]⟩)
      have q := I3.all
      simp only [List.forall_mem_cons] at q
      clear b3
      obtain ⟨-, -, -, -, -, -, ⟨-, k0, -⟩, ⟨-, k1, -⟩, ⟨-, k2, -⟩, ⟨-, k3, -⟩, ⟨-, k4, -⟩, ⟨-, k5, -⟩, -⟩ := q
      go_wp2
      go_ret
      exact ⟨rfl, I3.below⟩
    | some z =>
      obtain ⟨x, y⟩ := z
      obtain ⟨hg, ht⟩ := rd_of hx
      obtain ⟨l0, l1, l2, l3, l4, l5⟩ := good_len hg
      have h3 := fun w => btext_any (bs x.1) (bs x.2.1) (bs x.2.2) (bs y.1) (bs y.2.1) (bs y.2.2) w (by rw [bs_size]; omega) (by rw [bs_size]; omega) (by rw [bs_size]; omega) (by rw [bs_size]; omega) (by rw [bs_size]; omega) (by rw [bs_size]; omega)
      have hv : btV (bs x.1) (bs x.2.1) (bs x.2.2) (bs y.1) (bs y.2.1) (bs y.2.2) = s := eq_of_list (by rw [btV, bs_list, bs_list, bs_list, bs_list, bs_list, bs_list, bs_list, ht])
      rw [hv] at h3
      have h4 := fun w => good_free (bs x.1) (bs x.2.1) (bs x.2.2) (bs y.1) (bs y.2.1) (bs y.2.2) w
      simp only [bs_list] at h4
      rw [hg] at h4
      rw [hx] at h1 h2
      unfold prV tupV at h1
      unfold rrV tupV at h2
      unfold tupV at h3 h4
      dsimp only at h1 h2
      have H1 := Lib.hid h1
      have H2 := Lib.hid h2
      have H3 := Lib.hid h3
      have H4 := Lib.hid h4
      clear h1 h2 h3 h4 hx ht hg hv l0 l1 l2 l3 l4 l5
      generalize bs x.1 = x0 at *
      generalize bs x.2.1 = x1 at *
      generalize bs x.2.2 = x2 at *
      generalize bs y.1 = y0 at *
      generalize bs y.2.1 = y1 at *
      generalize bs y.2.2 = y2 at *
      go_enter Try.func4, Try.ntmps4
      go_wp2_with fail
      refine (HA.out _).mono ?_
      rintro e w1 ⟨rfl, b1⟩
      have I1 : Held w [] w1 := Held.step b1 ⟨Below.refl _ _, by simp⟩
      clear b1
      go_wp2_with fail
      (with_reducible refine (H1.out _).mono ?_)
      rintro e w2 ⟨rfl, b2⟩
      have I2 := Held.more6 (Held.step b2 I1) 25 (.string x0) (.string x1) (.string x2) (.string y0) (.string y1) (.string y2)
      clear b2
      go_wp2_with fail
      (with_reducible refine (H2.out _).mono ?_)
      rintro e w3 ⟨rfl, b3⟩
      have I3 := Held.more6 (Held.step b3 I2) 25 (.string x0) (.string x1) (.string x2) (.string y0) (.string y1) (.string y2)
      have q := I3.all
      simp only [List.forall_mem_cons] at q
      clear b3
      obtain ⟨-, -, -, -, -, -, ⟨-, k0, -⟩, ⟨-, k1, -⟩, ⟨-, k2, -⟩, ⟨-, k3, -⟩, ⟨-, k4, -⟩, ⟨-, k5, -⟩, -⟩ := q
      go_wp2_with fail
      (with_reducible refine (H3.out _).mono ?_)
      rintro e w4 ⟨rfl, b4⟩
      have I4 := Held.step b4 I3
      have q := I4.all
      simp only [List.forall_mem_cons] at q
      clear b4 k0 k1 k2 k3 k4 k5
      obtain ⟨-, -, -, -, -, -, ⟨-, k0, -⟩, ⟨-, k1, -⟩, ⟨-, k2, -⟩, ⟨-, k3, -⟩, ⟨-, k4, -⟩, ⟨-, k5, -⟩, -⟩ := q
      go_wp2_with fail
      (with_reducible refine (H4.out _).mono ?_)
      rintro e w5 ⟨rfl, b5⟩
      go_wp2
      go_ret
      exact ⟨by simp, (Held.step b5 I4).below⟩
  · go_enter Try.func4, Try.ntmps4
    go_wp2_with fail
    refine (HA.out _).mono ?_
    rintro e w1 ⟨rfl, b1⟩
    go_wp2_with fail
    refine (HA.out _).mono ?_
    rintro e w2 ⟨rfl, b2⟩
    replace b2 := b1.trans (b2.mono b1.size)
    go_wp2
    go_ret
    exact ⟨rfl, b2⟩
end LawBReads
end Go.Proofs.Ytbgbkhjcfchamaa
