/-
  Layer 3 (bond), eighth part: the fixed fact with which each statement of layer 3 begins.
-/
import Derived.Test.YtbgbkhjcfchamaaBondB
import Derived.Test.YtbgbkhjcfchamaaBondF
namespace Go.Proofs.Ytbgbkhjcfchamaa
open Go.RowKit
namespace Bond
open Who (bs bs_list bs_size bs_self Held)

theorem ex1 : pr [100, 111, 99, 58, 114, 101, 97, 100, 109, 101, 35, 118, 105, 101, 119, 101, 114, 64, 103, 114, 111, 117, 112, 58, 101, 110, 103, 35, 109, 101, 109, 98, 101, 114] = some (([100, 111, 99], [114, 101, 97, 100, 109, 101], [118, 105, 101, 119, 101, 114]), ([103, 114, 111, 117, 112], [101, 110, 103], [109, 101, 109, 98, 101, 114])) := by decide +kernel
theorem ex2 : matchB ⟨#[100, 111, 99]⟩ ⟨#[]⟩ ⟨#[]⟩ ⟨#[103, 114, 111, 117, 112]⟩ ⟨#[]⟩ ⟨#[]⟩ false (bs [100, 111, 99]) (bs [114, 101, 97, 100, 109, 101]) (bs [118, 105, 101, 119, 101, 114]) (bs [103, 114, 111, 117, 112]) (bs [101, 110, 103]) (bs [109, 101, 109, 98, 101, 114]) = true := by decide +kernel
theorem ex3 : ((bs [109, 101, 109, 98, 101, 114]).toList == [109, 101, 109, 98, 101, 114]) = true := by rw [Lib.toList_data, bs_list]; decide +kernel

set_option maxHeartbeats 4000000 in
theorem awake_any (w : World) : Calls Try.prog 6 #[] w fun e w' => e = .returned (.bool true) ∧ Below w.heap.size w w' := by
  have h1 := fun w => bread_any ⟨#[100, 111, 99, 58, 114, 101, 97, 100, 109, 101, 35, 118, 105, 101, 119, 101, 114, 64, 103, 114, 111, 117, 112, 58, 101, 110, 103, 35, 109, 101, 109, 98, 101, 114]⟩ w (by decide)
  have h2 := fun w => match_free ⟨#[100, 111, 99]⟩ ⟨#[]⟩ ⟨#[]⟩ ⟨#[103, 114, 111, 117, 112]⟩ ⟨#[]⟩ ⟨#[]⟩ false (bs [100, 111, 99]) (bs [114, 101, 97, 100, 109, 101]) (bs [118, 105, 101, 119, 101, 114]) (bs [103, 114, 111, 117, 112]) (bs [101, 110, 103]) (bs [109, 101, 109, 98, 101, 114]) w
  simp only [ex1, ex2] at h1 h2
  unfold prV tupV at h1
  unfold filV tupV at h2
  dsimp only at h1
  have e3 := ex3
  generalize bs [109, 101, 109, 98, 101, 114] = vm at *
  generalize bs [100, 111, 99] = vd at *
  generalize bs [114, 101, 97, 100, 109, 101] = vr at *
  generalize bs [118, 105, 101, 119, 101, 114] = vv at *
  generalize bs [103, 114, 111, 117, 112] = vg at *
  generalize bs [101, 110, 103] = ve at *
  have H1 := Lib.hid h1
  have H2 := Lib.hid h2
  clear h1 h2
  go_enter Try.func6, Try.ntmps6
  go_wp2_with fail
  refine (H1.out _).mono ?_
  rintro e w1 ⟨rfl, b1⟩
  have I1 : Held w [] w1 := Held.step b1 ⟨Below.refl _ _, by simp⟩
  have I2 := Held.more6 I1 25 (.string vd) (.string vr) (.string vv) (.string vg) (.string ve) (.string vm)
  have q := I2.all
  simp only [List.forall_mem_cons] at q
  clear b1
  obtain ⟨⟨-, k0, -⟩, ⟨-, k1, -⟩, ⟨-, k2, -⟩, ⟨-, k3, -⟩, ⟨-, k4, -⟩, ⟨-, k5, -⟩, -⟩ := q
  go_wp2_with fail
  (with_reducible refine (H2.out _).mono ?_)
  rintro e w2 ⟨rfl, b2⟩
  go_wp2
  go_ret
  exact ⟨rfl, (Held.step b2 I2).below⟩
end Bond
end Go.Proofs.Ytbgbkhjcfchamaa
