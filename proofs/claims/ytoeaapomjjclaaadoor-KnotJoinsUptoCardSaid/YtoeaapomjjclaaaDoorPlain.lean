/-
  The document's Plain.
-/
import Derived.Test.YtoeaapomjjclaaaDoorBase
import Derived.Handy
namespace Go.Proofs.YtoeaapomjjclaaaDoor
open Go.RowKit
namespace Ref

theorem sign0 : ∀ w : World, (Instr.index 83 (.agg #[.int .i64 35, .int .i64 64, .int .i64 58, .int .i64 42, .int .i64 44, .int .i64 40, .int .i64 41, .int .i64 34, .int .i64 92, .int .i64 59]) (.int .i64 0)).run Tryd.prog w = .ok (.int .i64 35) w := fun _ => by kernel_rfl
theorem sign1 : ∀ w : World, (Instr.index 83 (.agg #[.int .i64 35, .int .i64 64, .int .i64 58, .int .i64 42, .int .i64 44, .int .i64 40, .int .i64 41, .int .i64 34, .int .i64 92, .int .i64 59]) (.int .i64 1)).run Tryd.prog w = .ok (.int .i64 64) w := fun _ => by kernel_rfl
theorem sign2 : ∀ w : World, (Instr.index 83 (.agg #[.int .i64 35, .int .i64 64, .int .i64 58, .int .i64 42, .int .i64 44, .int .i64 40, .int .i64 41, .int .i64 34, .int .i64 92, .int .i64 59]) (.int .i64 2)).run Tryd.prog w = .ok (.int .i64 58) w := fun _ => by kernel_rfl
theorem sign3 : ∀ w : World, (Instr.index 83 (.agg #[.int .i64 35, .int .i64 64, .int .i64 58, .int .i64 42, .int .i64 44, .int .i64 40, .int .i64 41, .int .i64 34, .int .i64 92, .int .i64 59]) (.int .i64 3)).run Tryd.prog w = .ok (.int .i64 42) w := fun _ => by kernel_rfl
theorem sign4 : ∀ w : World, (Instr.index 83 (.agg #[.int .i64 35, .int .i64 64, .int .i64 58, .int .i64 42, .int .i64 44, .int .i64 40, .int .i64 41, .int .i64 34, .int .i64 92, .int .i64 59]) (.int .i64 4)).run Tryd.prog w = .ok (.int .i64 44) w := fun _ => by kernel_rfl
theorem sign5 : ∀ w : World, (Instr.index 83 (.agg #[.int .i64 35, .int .i64 64, .int .i64 58, .int .i64 42, .int .i64 44, .int .i64 40, .int .i64 41, .int .i64 34, .int .i64 92, .int .i64 59]) (.int .i64 5)).run Tryd.prog w = .ok (.int .i64 40) w := fun _ => by kernel_rfl
theorem sign6 : ∀ w : World, (Instr.index 83 (.agg #[.int .i64 35, .int .i64 64, .int .i64 58, .int .i64 42, .int .i64 44, .int .i64 40, .int .i64 41, .int .i64 34, .int .i64 92, .int .i64 59]) (.int .i64 6)).run Tryd.prog w = .ok (.int .i64 41) w := fun _ => by kernel_rfl
theorem sign7 : ∀ w : World, (Instr.index 83 (.agg #[.int .i64 35, .int .i64 64, .int .i64 58, .int .i64 42, .int .i64 44, .int .i64 40, .int .i64 41, .int .i64 34, .int .i64 92, .int .i64 59]) (.int .i64 7)).run Tryd.prog w = .ok (.int .i64 34) w := fun _ => by kernel_rfl
theorem sign8 : ∀ w : World, (Instr.index 83 (.agg #[.int .i64 35, .int .i64 64, .int .i64 58, .int .i64 42, .int .i64 44, .int .i64 40, .int .i64 41, .int .i64 34, .int .i64 92, .int .i64 59]) (.int .i64 8)).run Tryd.prog w = .ok (.int .i64 92) w := fun _ => by kernel_rfl
theorem sign9 : ∀ w : World, (Instr.index 83 (.agg #[.int .i64 35, .int .i64 64, .int .i64 58, .int .i64 42, .int .i64 44, .int .i64 40, .int .i64 41, .int .i64 34, .int .i64 92, .int .i64 59]) (.int .i64 9)).run Tryd.prog w = .ok (.int .i64 59) w := fun _ => by kernel_rfl

set_option maxHeartbeats 2000000 in
set_option maxRecDepth 100000 in
theorem plain_sign (r : Nat) (hr : r = 35 ∨ r = 64 ∨ r = 58 ∨ r = 42 ∨ r = 44 ∨ r = 40 ∨ r = 41 ∨ r = 34 ∨ r = 92 ∨ r = 59) (w : World) :
    Calls Tryd.prog 55 #[.int .i64 r] w fun e w' => e = .returned (.bool false) ∧ w = w' := by
  have i0 := sign0
  have i1 := sign1
  have i2 := sign2
  have i3 := sign3
  have i4 := sign4
  have i5 := sign5
  have i6 := sign6
  have i7 := sign7
  have i8 := sign8
  have i9 := sign9
  rcases hr with rfl | rfl | rfl | rfl | rfl | rfl | rfl | rfl | rfl | rfl
  all_goals
    go_enter Tryd.func55, Tryd.ntmps55
    go_wp2
    go_rounds 11
    go_ret
    exact ⟨rfl, rfl⟩

set_option maxHeartbeats 2000000 in
set_option maxRecDepth 100000 in
theorem plain_other (r : Nat) (hr : ¬ (r = 35 ∨ r = 64 ∨ r = 58 ∨ r = 42 ∨ r = 44 ∨ r = 40 ∨ r = 41 ∨ r = 34 ∨ r = 92 ∨ r = 59)) (hm : r ≤ 1114111) (w : World) :
    Calls Tryd.prog 55 #[.int .i64 r] w fun e w' => e = .returned (.bool (Gly.plainB r)) ∧ w = w' := by
  have b0 : ((r : Int) == 35) = false := by simp; omega
  have b1 : ((r : Int) == 64) = false := by simp; omega
  have b2 : ((r : Int) == 58) = false := by simp; omega
  have b3 : ((r : Int) == 42) = false := by simp; omega
  have b4 : ((r : Int) == 44) = false := by simp; omega
  have b5 : ((r : Int) == 40) = false := by simp; omega
  have b6 : ((r : Int) == 41) = false := by simp; omega
  have b7 : ((r : Int) == 34) = false := by simp; omega
  have b8 : ((r : Int) == 92) = false := by simp; omega
  have b9 : ((r : Int) == 59) = false := by simp; omega
  have i0 := sign0
  have i1 := sign1
  have i2 := sign2
  have i3 := sign3
  have i4 := sign4
  have i5 := sign5
  have i6 := sign6
  have i7 := sign7
  have i8 := sign8
  have i9 := sign9
  by_cases c1 : r < 33
  · have d : Gly.plainB r = false := by simp [Gly.plainB]; omega
    rw [d]
    clear d hr
    go_enter Tryd.func55, Tryd.ntmps55
    go_wp2
    go_rounds 11
    go_ret
    exact ⟨rfl, rfl⟩
  · by_cases c2 : r < 127
    · have d : Gly.plainB r = true := by simp [Gly.plainB]; omega
      rw [d]
      clear d hr
      go_enter Tryd.func55, Tryd.ntmps55
      go_wp2
      go_rounds 11
      go_ret
      exact ⟨rfl, rfl⟩
    · by_cases c3 : 160 < r
      · have d : Gly.plainB r = true := by simp [Gly.plainB]; omega
        rw [d]
        clear d hr
        go_enter Tryd.func55, Tryd.ntmps55
        go_wp2
        go_rounds 11
        go_ret
        exact ⟨by simp; omega, rfl⟩
      · have d : Gly.plainB r = false := by simp [Gly.plainB]; omega
        rw [d]
        clear d hr
        go_enter Tryd.func55, Tryd.ntmps55
        go_wp2
        go_rounds 11
        go_ret
        exact ⟨by simp; omega, rfl⟩

theorem plain_any (r : Nat) (hm : r ≤ 1114111) (w : World) :
    Calls Tryd.prog 55 #[.int .i64 r] w fun e w' => e = .returned (.bool (Gly.plainB r)) ∧ w = w' := by
  by_cases h : r = 35 ∨ r = 64 ∨ r = 58 ∨ r = 42 ∨ r = 44 ∨ r = 40 ∨ r = 41 ∨ r = 34 ∨ r = 92 ∨ r = 59
  · rw [show Gly.plainB r = false by simp [Gly.plainB]; omega]
    exact plain_sign r h w
  · exact plain_other r h hm w

end Ref
end Go.Proofs.YtoeaapomjjclaaaDoor
