/-
  The document's answers for layer 4 in this program: decimal numbers, and texts tied.
-/
import Derived.Test.YticcldohgbpcbaaGreatDoorMgMem
import Derived.Test.YticcldohgbpcbaaGreatDoorKnotPure
import Derived.WalkKit
namespace Go.Proofs.YticcldohgbpcbaaGreatDoor
open Go.RowKit
namespace Knot
open Who (bs bs_list bs_size bs_self eq_of_list)

/-- A slice of one byte, made of it, and its text. -/
theorem one_build (z : Int) (W : World) : (Instr.buildSlice 56 1 #[(0, .int .u8 z)]).run Tryz.prog W = .ok (.slice (some ⟨W.heap.size, 0, none⟩) 1 1) (W.alloc (.cells #[.int .u8 z] 5)) := by kernel_rfl
theorem dig_string (m : Nat) (W : World) (n : Nat) (hn : W.heap.size = n) (z : Int) (hz : z = 48 + (m : Int) % 10) : (Go.convert 56 9 (.slice (some ⟨n, 0, none⟩) 1 1)).run Tryz.prog (W.alloc (.cells #[.int .u8 z] 5)) = .ok (.string (bs [dig m])) (W.alloc (.cells #[.int .u8 z] 5)) := by
  subst hn
  have e : z = ((dig m).toNat : Int) := by rw [dig_nat]; omega
  subst e
  exact run_convert_bytes_back (P := Tryz.prog) _ 56 9 5 ⟨W.heap.size, 0, none⟩ 1 [dig m] Tryz.underlying56 Tryz.underlying5 Tryz.underlying9 (fun j hj => by
    obtain rfl : j = 0 := by simpa using hj
    rw [Lib.add_plain, Nat.zero_add, World.cell?_alloc_mark]
    rfl)

set_option maxHeartbeats 4000000 in
set_option maxRecDepth 100000 in
theorem decimal_any (n : Nat) (w : World) (hn : n < 9223372036854775808) :
    Calls Tryz.prog 86 #[.int .i64 n] w fun e x => e = .returned (.string (bs (digits n))) ∧ Below w.heap.size w x := by
  have hbd := one_build
  have hl := digits_len 19 n (by omega)
  have hst := dig_string n w w.heap.size rfl (48 + (n : Int) % 10) rfl
  go_enter Tryz.func86, Tryz.ntmps86
  go_wp2
  go_loopw [0, 3] (fun a b wr => ∃ (m : Nat) (t : List UInt8), a = .int .i64 m ∧ b = .string (bs t) ∧ Below w.heap.size w wr ∧ Hid (digits n = heads m ++ t) ∧ m ≤ n ∧ t.length ≤ 21) (fun a _ _ => (intOf a).toNat)
  case atStart => exact ⟨n, [dig n], rfl, rfl, (Below.refl _ _).alloc (Nat.le_refl _) _, Lib.hid (digits_start n), Nat.le_refl _, by simp⟩
  case round =>
    obtain ⟨m, t, rfl, rfl, hb, HD, hm, htl⟩ := hrel
    by_cases h10 : m < 10
    · have hd := digits_end HD.out h10
      go_wp2
      go_ret
      exact ⟨by rw [hd]; rfl, hb⟩
    · have hd := digits_step HD.out h10
      have hst2 := dig_string (m / 10) wr wr.heap.size rfl (48 + (m : Int) / 10 % 10) (by omega)
      have hcat : bs [dig (m / 10)] ++ bs t = bs (dig (m / 10) :: t) := by rw [Who.bs_add]; rfl
      have hs1 : (bs [dig (m / 10)]).size = 1 := by rw [bs_size]; rfl
      have hs2 : (bs t).size = t.length := bs_size t
      have hln : t.length ≤ 20 := by
        have := congrArg List.length hd
        rw [List.length_append, List.length_cons] at this
        omega
      have HX := Lib.hid (And.intro hd hcat)
      clear hd hcat HD
      generalize bs [dig (m / 10)] = sd at *
      go_wp2
      go_roundw
      case rel => exact ⟨m / 10, dig (m / 10) :: t, by go_num, by rw [HX.out.2], hb.alloc (by have := hb.size; omega) _, Lib.hid HX.out.1, by omega, by rw [List.length_cons]; omega⟩
      case measure => simp [intOf]; omega

theorem size59 : (ByteArray.mk #[59]).size = 1 := rfl
theorem size44 : (ByteArray.mk #[44]).size = 1 := rfl
theorem rnumber_any (n : Nat) (w : World) (hn : n < 9223372036854775808) :
    Calls Tryz.prog 50 #[.int .i64 n] w fun e x => e = .returned (.string (bs (number n))) ∧ Below w.heap.size w x := by
  have HD := Lib.hid (decimal_any n w hn)
  have hl := digits_len 19 n (by omega)
  have hs := bs_size (digits n)
  have hc : bs (digits n) ++ ⟨#[59]⟩ = bs (number n) := by rw [number, ← Who.bs_add]; rfl
  have HC := Lib.hid hc
  clear hc
  generalize bs (digits n) = d at *
  go_enter Tryz.func50, Tryz.ntmps50
  go_wp2_with fail
  refine HD.out.mono ?_
  rintro e w1 ⟨rfl, b1⟩
  go_wp2
  go_ret
  exact ⟨by rw [← HC.out]; rfl, b1⟩
theorem rtext_any (s : ByteArray) (w : World) (hs : s.size ≤ 4000000) :
    Calls Tryz.prog 51 #[.string s] w fun e x => e = .returned (.string (bs (textB s.data.toList))) ∧ Below w.heap.size w x := by
  have HD := Lib.hid (rnumber_any s.size w (by omega))
  have hl := digits_len 19 s.size (by omega)
  have hz : (bs (number s.size)).size ≤ 21 := by rw [bs_size, number, List.length_append, List.length_singleton]; omega
  have hc : bs (number s.size) ++ s ++ ⟨#[44]⟩ = bs (textB s.data.toList) := by
    rw [textB, ← Lib.size_eq, ← Who.bs_add, ← Who.bs_add, bs_self, ByteArray.append_assoc]
    rfl
  have HC := Lib.hid hc
  clear hc
  generalize bs (number s.size) = d at *
  go_enter Tryz.func51, Tryz.ntmps51
  go_wp2_with fail
  refine HD.out.mono ?_
  rintro e w1 ⟨rfl, b1⟩
  go_wp2
  go_ret
  exact ⟨by rw [← HC.out]; rfl, b1⟩
theorem rmark_any (y : Bool) (w : World) :
    Calls Tryz.prog 52 #[.bool y] w fun e x => e = .returned (.string (bs (markB y))) ∧ x = w := by
  cases y
  all_goals
    go_enter Tryz.func52, Tryz.ntmps52
    go_wp2
    go_ret
    exact ⟨rfl, rfl⟩
end Knot
end Go.Proofs.YticcldohgbpcbaaGreatDoor
