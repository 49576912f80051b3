/-
  The document's answers in this program: Hex.
-/
import Derived.Test.YtldfobciojmlnaaDoorQtPure
import Derived.Test.YtldfobciojmlnaaDoorRunes
import Derived.Test.YtldfobciojmlnaaDoorNum
namespace Go.Proofs.YtldfobciojmlnaaDoor
open Go.RowKit
namespace Ref

def dig16 : ByteArray := ⟨#[48, 49, 50, 51, 52, 53, 54, 55, 56, 57, 97, 98, 99, 100, 101, 102]⟩
theorem dig16_at : ∀ i, i < 16 → dig16.data.toList.getD i 0 = Gly.hexDigit i := by decide
theorem idx16 (z : Int) (i : Nat) (hz : z = (i : Int)) (hi : i < 16) (k : IntKind) (w : World) :
    (Instr.index 9 (.string dig16) (.int k z)).run Tryd.prog w = .ok (.int .u8 ((Gly.hexDigit i).toNat : Int)) w := by
  subst hz
  have hs : dig16.size = 16 := rfl
  rw [run_index_string w 9 dig16 k _ Tryd.underlying9, dif_pos ⟨by omega, by rw [hs]; omega⟩]
  have e : ((i : Int)).toNat = i := by omega
  simp only [e]
  rw [Lib.getD_at dig16 i (by rw [hs]; omega), dig16_at i hi]

/-- A slice of one byte, made of it. -/
theorem one_build (z : Int) (W : World) : (Instr.buildSlice 48 1 #[(0, .int .u8 z)]).run Tryd.prog W = .ok (.slice (some ⟨W.heap.size, 0, none⟩) 1 1) (W.alloc (.cells #[.int .u8 z] 5)) := by kernel_rfl
theorem one_string (b : UInt8) (W : World) (n : Nat) (hn : W.heap.size = n) : (convert 48 9 (.slice (some ⟨n, 0, none⟩) 1 1)).run Tryd.prog (W.alloc (.cells #[.int .u8 (b.toNat : Int)] 5)) = .ok (.string ⟨#[b]⟩) (W.alloc (.cells #[.int .u8 (b.toNat : Int)] 5)) := by
  subst hn
  rw [run_convert_bytes_arg (W.alloc (.cells #[.int .u8 (b.toNat : Int)] 5)) 48 5 Tryd.underlying48 Tryd.underlying5 W.heap.size 0 1 1 [(b.toNat : Int)] rfl ?_ 9 Tryd.underlying9]
  · have : strOfNums [(b.toNat : Int)] = ⟨#[b]⟩ := by
      rw [strOfNums]; simp
    rw [this]
  · intro i hi
    obtain rfl : i = 0 := by omega
    go_simp

set_option maxHeartbeats 1000000 in
set_option maxRecDepth 100000 in
theorem hex_any (n k : Nat) (w : World) (hn : n < 2147483648) (hk : k ≤ 2) :
    Calls Tryd.prog 41 #[.int .i64 n, .int .i64 k] w fun e w' => e = .returned (.string ⟨(Gly.hxg n k).toArray⟩) ∧ Below w.heap.size w w' := by
  go_enter Tryd.func41, Tryd.ntmps41
  go_wp2_with fail
  have hlen := Gly.hxg_len31 hn hk
  go_loopw [0, 1, 5] (fun vn vk vs wr => ∃ (m : Nat) (j : Int) (acc : List UInt8), vn = .int .i64 m ∧ vk = .int .i64 j ∧ vs = .string ⟨acc.toArray⟩ ∧ Below w.heap.size w wr ∧ Hid (Gly.hxg m j ++ acc = Gly.hxg n k) ∧ m ≤ n ∧ j + acc.length = k) (fun vn vk _ _ => (intOf vn).toNat + (intOf vk).toNat)
  case atStart => exact ⟨n, k, [], rfl, rfl, rfl, Below.refl _ _, Lib.hid (by simp), Nat.le_refl _, by simp⟩
  case round =>
    obtain ⟨m, j, acc, rfl, rfl, rfl, hbw, HX, hm, hj⟩ := hrel
    have hal : acc.length ≤ 10 := by have := congrArg List.length HX.out; rw [List.length_append] at this; omega
    have hbd := one_build
    have hst := one_string
    by_cases he : m = 0 ∧ j ≤ 0
    · obtain ⟨rfl, hj0⟩ := he
      have hc := HX.out
      rw [Gly.hxg_end ⟨rfl, hj0⟩, List.nil_append] at hc
      go_wp2
      go_ret
      exact ⟨by rw [hc]; rfl, hbw⟩
    · have hc := HX.out
      rw [Gly.hxg_step he, List.append_assoc, List.singleton_append] at hc
      have HC := Lib.hid hc
      clear hc HX
      have hds : dig16.size = 16 := rfl
      have hdi : dig16[m % 16]'(by show _ < 16; omega) = Gly.hexDigit (m % 16) := by rw [Lib.getD_at dig16 _ (by omega), dig16_at _ (by omega)]
      unfold dig16 at hdi
      have HI := Lib.hid hdi
      clear hdi
      have hcat : ⟨#[Gly.hexDigit (m % 16)]⟩ ++ (⟨acc.toArray⟩ : ByteArray) = ⟨(Gly.hexDigit (m % 16) :: acc).toArray⟩ := by
        apply ByteArray.ext; apply Array.ext'; simp
      have HCT := Lib.hid hcat
      clear hcat
      by_cases hm0 : 0 < m
      · go_wp2
        go_roundw
        case rel =>
          rw [HI.out, HCT.out]
          exact ⟨m / 16, j - 1, _, by go_num, rfl, rfl, hbw.alloc (by have := hbw.size; omega) _, HC, by omega, by simp; omega⟩
        case measure => simp [intOf]; omega
      · have hj0 : 0 < j := by omega
        go_wp2
        go_roundw
        case rel =>
          rw [HI.out, HCT.out]
          exact ⟨m / 16, j - 1, _, by go_num, rfl, rfl, hbw.alloc (by have := hbw.size; omega) _, HC, by omega, by simp; omega⟩
        case measure => simp [intOf]; omega
end Ref
end Go.Proofs.YtldfobciojmlnaaDoor
