/-
  Layer 13: the document's Sum.
-/
import Derived.Test.YtdodmjcbjknneaaSpSum
namespace Go.Proofs.Ytdodmjcbjknneaa
set_option maxRecDepth 100000
open Go.RowKit
open Ta (IsBytes)
namespace Sp
theorem xor_bit (A B j : Nat) : (A ^^^ B) / 2 ^ j % 2 = if A / 2 ^ j % 2 = B / 2 ^ j % 2 then 0 else 1 := by
  have h := Nat.testBit_xor A B j
  rw [Nat.testBit_eq_decide_div_mod_eq, Nat.testBit_eq_decide_div_mod_eq, Nat.testBit_eq_decide_div_mod_eq] at h
  generalize A / 2 ^ j = x at *
  generalize B / 2 ^ j = y at *
  generalize (A ^^^ B) / 2 ^ j = z at *
  have hx : x % 2 = 0 ∨ x % 2 = 1 := by omega
  have hy : y % 2 = 0 ∨ y % 2 = 1 := by omega
  have hz : z % 2 = 0 ∨ z % 2 = 1 := by omega
  rcases hx with hx | hx <;> rcases hy with hy | hy <;> rcases hz with hz | hz <;> simp [hx, hy, hz] at h ⊢
theorem xor_next (A B j : Nat) : (A ^^^ B) % 2 ^ (j + 1) = (A ^^^ B) % 2 ^ j + (if A / 2 ^ j % 2 = B / 2 ^ j % 2 then 0 else 2 ^ j) := by
  have e : (A ^^^ B) % 2 ^ (j + 1) = (A ^^^ B) % 2 ^ j + 2 ^ j * ((A ^^^ B) / 2 ^ j % 2) := by rw [Nat.pow_succ, Nat.mod_mul]
  rw [e, xor_bit]
  split <;> simp
set_option maxHeartbeats 4000000 in
set_option maxRecDepth 100000 in
theorem turned_any (A B : Nat) (hA : A < 4294967296) (hB : B < 4294967296) (w : World) : Calls Try.prog 32 #[.int .u64 (A : Int), .int .u64 (B : Int)] w fun e x => e = .returned (.int .u64 ((A ^^^ B : Nat) : Int)) ∧ x = w := by
  go_enter Try.func32, Try.ntmps32
  go_wp2_with fail
  go_loopw [0, 1, 5, 6, 7] (fun a b o p i x => ∃ j : Nat, j ≤ 32 ∧ i = .int .i64 (j : Int) ∧ a = .int .u64 ((A / 2 ^ j : Nat) : Int) ∧ b = .int .u64 ((B / 2 ^ j : Nat) : Int) ∧ o = .int .u64 (((A ^^^ B) % 2 ^ j : Nat) : Int) ∧ p = .int .u64 ((2 ^ j : Nat) : Int) ∧ x = w) (fun _ _ _ _ i _ => 32 - (intOf i).toNat)
  case atStart => exact ⟨0, by omega, rfl, by simp, by simp, by simp [Nat.mod_one], rfl, rfl⟩
  case round =>
    obtain ⟨j, hj, rfl, rfl, rfl, rfl, rfl, rfl⟩ := hrel
    by_cases hlt : j < 32
    · have hnx := xor_next A B j
      have ha : A / 2 ^ j / 2 = A / 2 ^ (j + 1) := by rw [Nat.div_div_eq_div_mul, Nat.pow_succ]
      have hb : B / 2 ^ j / 2 = B / 2 ^ (j + 1) := by rw [Nat.div_div_eq_div_mul, Nat.pow_succ]
      have hp : 2 ^ j * 2 = 2 ^ (j + 1) := (Nat.pow_succ 2 j).symm
      have hpl : 2 ^ j ≤ 2147483648 := Nat.pow_le_pow_right (n := 2) (i := j) (j := 31) (by omega) (by omega)
      have hol : (A ^^^ B) % 2 ^ j < 2 ^ j := Nat.mod_lt _ (Nat.two_pow_pos j)
      have hal : A / 2 ^ j < 4294967296 := Nat.lt_of_le_of_lt (Nat.div_le_self _ _) hA
      have hbl : B / 2 ^ j < 4294967296 := Nat.lt_of_le_of_lt (Nat.div_le_self _ _) hB
      have HE := Lib.hid (And.intro ha (And.intro hb (And.intro hp hnx)))
      clear ha hb hp hnx
      generalize A / 2 ^ j = a at *
      generalize B / 2 ^ j = b at *
      generalize (A ^^^ B) % 2 ^ j = o at *
      generalize 2 ^ j = p at *
      by_cases h : a % 2 = b % 2
      · have e1 : ((a : Int) % 2 != (b : Int) % 2) = false := by rw [bne_eq_false_iff_eq]; omega
        have hx : (A ^^^ B) % 2 ^ (j + 1) = o := by rw [HE.out.2.2.2]; simp [h]
        have HX := Lib.hid hx
        clear hx h
        go_wp2_with fail
        go_roundw
        case rel => exact ⟨j + 1, by omega, by go_num, congrArg (Value.int .u64) (by have := HE.out.1; omega), congrArg (Value.int .u64) (by have := HE.out.2.1; omega), congrArg (Value.int .u64) (by have := HX.out; omega), congrArg (Value.int .u64) (by have := HE.out.2.2.1; omega), trivial⟩
        case measure => simp [intOf]; omega
      · have e1 : ((a : Int) % 2 != (b : Int) % 2) = true := by rw [bne_iff_ne, ne_eq]; omega
        have hx : (A ^^^ B) % 2 ^ (j + 1) = o + p := by rw [HE.out.2.2.2]; simp [h]
        have HX := Lib.hid hx
        clear hx h
        go_wp2_with fail
        go_roundw
        case rel => exact ⟨j + 1, by omega, by go_num, congrArg (Value.int .u64) (by have := HE.out.1; omega), congrArg (Value.int .u64) (by have := HE.out.2.1; omega), congrArg (Value.int .u64) (by have := HX.out; omega), congrArg (Value.int .u64) (by have := HE.out.2.2.1; omega), trivial⟩
        case measure => simp [intOf]; omega
    · obtain rfl : j = 32 := by omega
      have hx : (A ^^^ B) % 2 ^ 32 = A ^^^ B := Nat.mod_eq_of_lt (Nat.xor_lt_two_pow (n := 32) (by omega) (by omega))
      rw [hx]
      go_wp2_with fail
      go_ret
      exact ⟨rfl, rfl⟩
/-- What of a byte is left behind its first bits. -/
theorem shl_bit (B k : Nat) (hk : k < 8) (hB : B < 256) : (B * 2 ^ k % 256) / 128 = B / 2 ^ (7 - k) % 2 ∧ B * 2 ^ k % 256 * 2 % 256 = B * 2 ^ (k + 1) % 256 := by
  have hk' : k = 0 ∨ k = 1 ∨ k = 2 ∨ k = 3 ∨ k = 4 ∨ k = 5 ∨ k = 6 ∨ k = 7 := by omega
  rcases hk' with rfl | rfl | rfl | rfl | rfl | rfl | rfl | rfl <;> constructor <;> omega
set_option maxHeartbeats 4000000 in
set_option maxRecDepth 100000 in
theorem dsum_any (v : Value) (l : List UInt8) (w : World) (h : IsBytes w v l) : Calls Try.prog 11 #[v] w fun e x => e = .returned (.int .u32 (crc l : Nat)) ∧ x = w := by
  have H := Lib.hid h
  have HT := Lib.hid (fun A hA x => turned_any A 79764919 hA (by omega) x)
  obtain ⟨ao, cap, rfl, h1, h2, -⟩ := h
  have hbig : l.length ≤ 9223372036854775807 := by unfold maxLen at h2; omega
  clear h1 h2
  go_enter Try.func11, Try.ntmps11
  go_wp2_with fail
  go_loopw [3, 11] (fun c i x => ∃ j : Nat, j ≤ l.length ∧ i = .int .i64 (j : Int) ∧ c = .int .u64 (crc (l.take j) : Nat) ∧ x = w) (fun _ i _ => l.length - (intOf i).toNat)
  case atStart => exact ⟨0, by omega, rfl, rfl, rfl⟩
  case round =>
    obtain ⟨j, hj, rfl, rfl, rfl⟩ := hrel
    by_cases hlt : j < l.length
    · obtain ⟨g, q, hix, hc⟩ := Ta.byte_at H.out hlt
      have hl := crc_lt (l.take j)
      have HTk := Lib.hid (crc_take hlt)
      have hb : l[j].toNat < 256 := l[j].toNat_lt
      generalize crc (l.take j) = C at *
      generalize l[j].toNat = B at *
      go_wp2_with fail
      go_loopw [3, 5, 6] (fun c b i x => ∃ k : Nat, k ≤ 8 ∧ i = .int .i64 (k : Int) ∧ c = .int .u64 (bits C B k : Nat) ∧ b = .int .i64 ((B * 2 ^ k % 256 : Nat) : Int) ∧ x = wr) (fun _ _ i _ => 8 - (intOf i).toNat)
      case atStart => exact ⟨0, by omega, rfl, rfl, by simp; omega, rfl⟩
      case round =>
        obtain ⟨k, hk, rfl, rfl, rfl, rfl⟩ := hrel
        by_cases hk8 : k < 8
        · have hcl := bits_lt hl B k
          have hs : bits C B (k + 1) = bit (bits C B k) (B / 2 ^ (7 - k) % 2) := rfl
          obtain ⟨hsb1, hsb2⟩ := shl_bit B k hk8 hb
          have hxl : B * 2 ^ k % 256 < 256 := Nat.mod_lt _ (by omega)
          rw [← hsb1] at hs
          generalize bits C B k = D at *
          generalize B * 2 ^ k % 256 = x at *
          clear hsb1
          have HX := Lib.hid (And.intro hs hsb2)
          clear hs hsb2
          have hx2 : bit D (x / 128) = if D / 2147483648 = x / 128 then D * 2 % 4294967296 else (D * 2 % 4294967296) ^^^ 79764919 := rfl
          by_cases hD : 2147483648 ≤ D
          · by_cases hx : 128 ≤ x
            · have d1 : decide ((2147483648 : Int) ≤ (D : Int)) = true := by simp; omega
              have d2 : decide ((128 : Int) ≤ (x : Int)) = true := by simp; omega
              rw [if_pos (by omega)] at hx2
              have HX2 := Lib.hid hx2
              clear hx2 hD hx
              go_wp2_with fail
              go_roundw
              case rel => exact ⟨k + 1, by omega, by go_num, congrArg (Value.int .u64) (by have := HX.out.1; have := HX2.out; omega), congrArg (Value.int .i64) (by have := HX.out.2; omega), trivial⟩
              case measure => simp [intOf]; omega
            · have d1 : decide ((2147483648 : Int) ≤ (D : Int)) = true := by simp; omega
              have d2 : decide ((128 : Int) ≤ (x : Int)) = false := by simp; omega
              rw [if_neg (by omega)] at hx2
              have HX2 := Lib.hid hx2
              have HTd := Lib.hid (HT.out (D * 2 % 4294967296) (by omega) wr)
              have hdd : ((D : Int) * 2 % 4294967296) = ((D * 2 % 4294967296 : Nat) : Int) := by omega
              rw [← hdd, show ((79764919 : Nat) : Int) = 79764919 from rfl] at HTd
              clear hx2 hdd hD hx
              go_wp2_with fail
              refine HTd.out.mono ?_
              rintro e z ⟨rfl, hz⟩
              rw [hz]
              clear hz z
              go_wp2_with fail
              go_roundw
              case rel => exact ⟨k + 1, by omega, by go_num, congrArg (Value.int .u64) (by have := HX.out.1; have := HX2.out; omega), congrArg (Value.int .i64) (by have := HX.out.2; omega), trivial⟩
              case measure => simp [intOf]; omega
          · by_cases hx : 128 ≤ x
            · have d1 : decide ((2147483648 : Int) ≤ (D : Int)) = false := by simp; omega
              have d2 : decide ((128 : Int) ≤ (x : Int)) = true := by simp; omega
              rw [if_neg (by omega)] at hx2
              have HX2 := Lib.hid hx2
              have HTd := Lib.hid (HT.out (D * 2 % 4294967296) (by omega) wr)
              have hdd : ((D : Int) * 2 % 4294967296) = ((D * 2 % 4294967296 : Nat) : Int) := by omega
              rw [← hdd, show ((79764919 : Nat) : Int) = 79764919 from rfl] at HTd
              clear hx2 hdd hD hx
              go_wp2_with fail
              refine HTd.out.mono ?_
              rintro e z ⟨rfl, hz⟩
              rw [hz]
              clear hz z
              go_wp2_with fail
              go_roundw
              case rel => exact ⟨k + 1, by omega, by go_num, congrArg (Value.int .u64) (by have := HX.out.1; have := HX2.out; omega), congrArg (Value.int .i64) (by have := HX.out.2; omega), trivial⟩
              case measure => simp [intOf]; omega
            · have d1 : decide ((2147483648 : Int) ≤ (D : Int)) = false := by simp; omega
              have d2 : decide ((128 : Int) ≤ (x : Int)) = false := by simp; omega
              rw [if_pos (by omega)] at hx2
              have HX2 := Lib.hid hx2
              clear hx2 hD hx
              go_wp2_with fail
              go_roundw
              case rel => exact ⟨k + 1, by omega, by go_num, congrArg (Value.int .u64) (by have := HX.out.1; have := HX2.out; omega), congrArg (Value.int .i64) (by have := HX.out.2; omega), trivial⟩
              case measure => simp [intOf]; omega
        · obtain rfl : k = 8 := by omega
          go_wp2_with fail
          go_roundw
          case rel => exact ⟨j + 1, by omega, by go_num, by rw [HTk.out], trivial⟩
          case measure => simp [intOf]; omega
    · obtain rfl : j = l.length := by omega
      rw [List.take_length]
      have hcm : ((crc l : Nat) : Int) % 4294967296 = (crc l : Nat) := by have := crc_lt l; omega
      generalize hC : crc l = C at *
      have HCq := Lib.hid hC
      clear hC
      go_wp2_with fail
      go_ret
      exact ⟨by rw [HCq.out]; rfl, rfl⟩
end Sp
end Go.Proofs.Ytdodmjcbjknneaa
