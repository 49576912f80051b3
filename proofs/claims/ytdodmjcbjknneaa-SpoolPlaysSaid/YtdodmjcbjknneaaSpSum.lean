/-
  Layer 13: the program's Sum.
-/
import Derived.Test.YtdodmjcbjknneaaSpPure
import Derived.Test.YtdodmjcbjknneaaTaPlay
import Derived.Laws.Bits64
import Derived.BigQuiet
import Derived.Deep.DeepCutAuto
namespace Go.Proofs.Ytdodmjcbjknneaa
set_option maxRecDepth 100000
open Go.RowKit
open Ta (IsBytes)
namespace Sp
theorem xor_u32 (a b : Nat) (ha : a < 4294967296) (hb : b < 4294967296) : Go.bits .xor .u32 (a : Int) (b : Int) = ((a ^^^ b : Nat) : Int) := by
  have hx : a ^^^ b < 2 ^ 32 := Nat.xor_lt_two_pow (by omega) (by omega)
  have h1 : (BitVec.ofInt 32 (a : Int)).toNat = a := by
    rw [BitVec.ofInt_natCast, BitVec.toNat_ofNat]; exact Nat.mod_eq_of_lt (by omega)
  have h2 : (BitVec.ofInt 32 (b : Int)).toNat = b := by
    rw [BitVec.ofInt_natCast, BitVec.toNat_ofNat]; exact Nat.mod_eq_of_lt (by omega)
  show IntKind.u32.wrap ((BitVec.ofInt 32 (a : Int) ^^^ BitVec.ofInt 32 (b : Int)).toNat : Int) = _
  rw [BitVec.toNat_xor, h1, h2]
  generalize a ^^^ b = c at *
  simp [IntKind.wrap, IntKind.bits, IntKind.signed]
  omega
theorem and_one (a : Nat) (ha : a < 256) : Go.bits .and .u8 (a : Int) 1 = ((a % 2 : Nat) : Int) := by
  have h1 : (BitVec.ofInt 8 (a : Int)).toNat = a := by
    rw [BitVec.ofInt_natCast, BitVec.toNat_ofNat]; exact Nat.mod_eq_of_lt (by omega)
  show IntKind.u8.wrap ((BitVec.ofInt 8 (a : Int) &&& BitVec.ofInt 8 1).toNat : Int) = _
  rw [BitVec.toNat_and, h1, show (BitVec.ofInt 8 1).toNat = 1 from rfl, Nat.and_one_is_mod]
  simp [IntKind.wrap, IntKind.bits, IntKind.signed]
  omega
set_option maxHeartbeats 4000000 in
set_option maxRecDepth 100000 in
theorem sum_any (v : Value) (l : List UInt8) (w : World) (h : IsBytes w v l) : Calls Try.prog 10 #[v] w fun e x => e = .returned (.int .u32 (crc l : Nat)) ∧ Below w.heap.size w x := by
  have H := Lib.hid h
  obtain ⟨ao, cap, rfl, h1, h2, -⟩ := h
  have hbig : l.length ≤ 9223372036854775807 := by unfold maxLen at h2; omega
  clear h1 h2
  go_enter Try.func10, Try.ntmps10
  go_wp2_with fail
  go_loopw [3, 11] (fun c i x => ∃ j : Nat, j ≤ l.length ∧ i = .int .i64 (j : Int) ∧ c = .int .u32 (crc (l.take j) : Nat) ∧ Hid (Below w.heap.size w x)) (fun _ i _ => l.length - (intOf i).toNat)
  case atStart => exact ⟨0, by omega, rfl, rfl, Below.refl _ _⟩
  case round =>
    obtain ⟨j, hj, rfl, rfl, HB⟩ := hrel
    by_cases hlt : j < l.length
    · obtain ⟨g, q, hix, hc⟩ := Ta.byte_at (Ta.IsBytes.below H.out HB.out) hlt
      have hl := crc_lt (l.take j)
      have HT := Lib.hid (crc_take hlt)
      have hb : l[j].toNat < 256 := l[j].toNat_lt
      generalize crc (l.take j) = C at *
      generalize l[j].toNat = B at *
      go_wp2_with fail
      go_loopw [3, 15] (fun c i x => ∃ k : Nat, k ≤ 8 ∧ i = .int .i64 (k : Int) ∧ c = .int .u32 (bits C B k : Nat) ∧ Hid (Below w.heap.size w x)) (fun _ i _ => 8 - (intOf i).toNat)
      case atStart => exact ⟨0, by omega, rfl, rfl, HB.out⟩
      case round =>
        obtain ⟨k, hk, rfl, rfl, HB2⟩ := hrel
        by_cases hk8 : k < 8
        · have hcl := bits_lt hl B k
          have hs : bits C B (k + 1) = bit (bits C B k) (B / 2 ^ (7 - k) % 2) := rfl
          have hp : ((B : Int) / 2 ^ (7 - k)) = ((B / 2 ^ (7 - k) : Nat) : Int) := by simp
          have ha := and_one (B / 2 ^ (7 - k)) (Nat.lt_of_le_of_lt (Nat.div_le_self _ _) hb)
          rw [← hp] at ha
          generalize bits C B k = D at *
          generalize B / 2 ^ (7 - k) % 2 = E at *
          clear hp
          have hw : ((D : Int) * 2 % 4294967296) = ((D * 2 % 4294967296 : Nat) : Int) := by omega
          have hx := xor_u32 (D * 2 % 4294967296) 79764919 (by omega) (by omega)
          rw [← hw] at hx
          by_cases hE : D / 2147483648 = E
          · have e1 : ((D : Int) / 2147483648 == Go.bits .and .u8 ((B : Int) / 2 ^ (7 - k)) 1) = true := by rw [ha, beq_iff_eq]; omega
            have e2 : ((D : Int) / 2147483648 != Go.bits .and .u8 ((B : Int) / 2 ^ (7 - k)) 1) = false := by rw [bne, e1]; rfl
            have hs' : bits C B (k + 1) = D * 2 % 4294967296 := by rw [hs, bit, if_pos hE]
            have HS := Lib.hid (And.intro hs' hw)
            clear hs hs' hx hw hE ha
            go_wp2_with fail
            go_quiet (fail)
            go_wp2_with fail
            go_roundw
            case rel => exact ⟨k + 1, by omega, by go_num, by rw [HS.out.1]; go_num, below_drewN HB2.out _⟩
            case measure => simp [intOf]; omega
          · have e1 : ((D : Int) / 2147483648 == Go.bits .and .u8 ((B : Int) / 2 ^ (7 - k)) 1) = false := by rw [ha, beq_eq_false_iff_ne]; omega
            have e2 : ((D : Int) / 2147483648 != Go.bits .and .u8 ((B : Int) / 2 ^ (7 - k)) 1) = true := by rw [bne, e1]; rfl
            have hs' : bits C B (k + 1) = (D * 2 % 4294967296) ^^^ 79764919 := by rw [hs, bit, if_neg hE]
            have HS := Lib.hid (And.intro hs' hw)
            clear hs hs' hw hE ha
            have HX := Lib.hid hx
            clear hx
            go_wp2_with fail
            go_quiet (fail)
            go_wp2_with fail
            go_roundw
            case rel => exact ⟨k + 1, by omega, by go_num, by rw [HS.out.1]; exact congrArg _ HX.out, below_drewN HB2.out _⟩
            case measure => simp [intOf]; omega
        · obtain rfl : k = 8 := by omega
          go_wp2_with fail
          go_roundw
          case rel => exact ⟨j + 1, by omega, by go_num, by rw [HT.out], HB2.out⟩
          case measure => simp [intOf]; omega
    · obtain rfl : j = l.length := by omega
      rw [List.take_length]
      go_wp2_with fail
      go_ret
      exact ⟨rfl, HB.out⟩
end Sp
end Go.Proofs.Ytdodmjcbjknneaa
