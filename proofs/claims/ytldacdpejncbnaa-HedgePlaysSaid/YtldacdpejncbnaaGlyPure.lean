/-
  Plain mathematics under the statements of layer 1 (glyph): texts as lists of bytes, their runes, quotes, clips and order. No program is named here.
-/
import Derived.Lib.DecodeN
import Derived.Lib.RuneBytes
import Derived.Lib.Strings
namespace Go.Proofs.Ytldacdpejncbnaa.Gly
open Go

/-- The rune at the front of a list of bytes, and its width: the model's own decoder. -/
def dec (l : List UInt8) : Nat × Nat := Lib.decodeN l.length (l.getD 0 0).toNat (l.getD 1 0).toNat (l.getD 2 0).toNat (l.getD 3 0).toNat

theorem getD_get (s : ByteArray) (i : Nat) : s.data.toList.getD i 0 = s.get! i := by
  cases s with
  | mk d =>
    show d.toList.getD i 0 = d[i]!
    by_cases h : i < d.size
    · rw [getElem!_pos d i h]; simp [List.getD, h]
    · rw [getElem!_neg d i h]; simp [List.getD, h]; rfl

theorem getD_drop (l : List UInt8) (p k : Nat) : (l.drop p).getD k 0 = l.getD (p + k) 0 := by simp [List.getD, List.getElem?_drop]

theorem dec_at (s : ByteArray) (p : Nat) : Utf8.decode s p = dec (s.data.toList.drop p) := by
  unfold dec
  rw [Lib.decode_at, getD_drop, getD_drop, getD_drop, getD_drop, List.length_drop, ← getD_get, ← getD_get, ← getD_get, ← getD_get, Lib.size_eq]
  rfl

/-- A byte that is no part of a rune's form stands at the front. -/
def bad (l : List UInt8) : Bool := decide (dec l = (65533, 1))

def byte (l : List UInt8) (k : Nat) : Nat := (l.getD k 0).toNat
theorem byte_lt (l : List UInt8) (k : Nat) : byte l k < 256 := (l.getD k 0).toNat_lt
theorem dec_def (l : List UInt8) : dec l = Lib.decodeN l.length (byte l 0) (byte l 1) (byte l 2) (byte l 3) := rfl

theorem len_pos {l : List UInt8} (h : l ≠ []) : 0 < l.length := List.length_pos_iff.2 h

set_option maxHeartbeats 2000000 in
/-- The four kinds of runes' forms, and stray bytes. -/
theorem dec_cases (l : List UInt8) (_h : l ≠ []) :
    (byte l 0 < 128 ∧ dec l = (byte l 0, 1)) ∨
    (192 ≤ byte l 0 ∧ byte l 0 < 224 ∧ 2 ≤ l.length ∧ byte l 1 / 64 = 2 ∧ 128 ≤ byte l 0 % 32 * 64 + byte l 1 % 64 ∧ dec l = (byte l 0 % 32 * 64 + byte l 1 % 64, 2)) ∨
    (224 ≤ byte l 0 ∧ byte l 0 < 240 ∧ 3 ≤ l.length ∧ byte l 1 / 64 = 2 ∧ byte l 2 / 64 = 2 ∧ 2048 ≤ byte l 0 % 16 * 4096 + byte l 1 % 64 * 64 + byte l 2 % 64 ∧
      (byte l 0 % 16 * 4096 + byte l 1 % 64 * 64 + byte l 2 % 64 < 55296 ∨ 57344 ≤ byte l 0 % 16 * 4096 + byte l 1 % 64 * 64 + byte l 2 % 64) ∧
      dec l = (byte l 0 % 16 * 4096 + byte l 1 % 64 * 64 + byte l 2 % 64, 3)) ∨
    (240 ≤ byte l 0 ∧ byte l 0 < 248 ∧ 4 ≤ l.length ∧ byte l 1 / 64 = 2 ∧ byte l 2 / 64 = 2 ∧ byte l 3 / 64 = 2 ∧ 65536 ≤ byte l 0 % 8 * 262144 + byte l 1 % 64 * 4096 + byte l 2 % 64 * 64 + byte l 3 % 64 ∧
      byte l 0 % 8 * 262144 + byte l 1 % 64 * 4096 + byte l 2 % 64 * 64 + byte l 3 % 64 ≤ 1114111 ∧
      dec l = (byte l 0 % 8 * 262144 + byte l 1 % 64 * 4096 + byte l 2 % 64 * 64 + byte l 3 % 64, 4)) ∨
    (128 ≤ byte l 0 ∧ dec l = (65533, 1)) := by
  have h0 := byte_lt l 0; have h1 := byte_lt l 1; have h2 := byte_lt l 2; have h3 := byte_lt l 3
  rw [dec_def]
  generalize byte l 0 = b0 at *
  generalize byte l 1 = b1 at *
  generalize byte l 2 = b2 at *
  generalize byte l 3 = b3 at *
  unfold Lib.decodeN
  by_cases c0 : b0 < 128
  · left; rw [if_pos c0]; exact ⟨c0, rfl⟩
  · right
    rw [if_neg c0]
    by_cases c1 : b0 / 32 = 6 ∧ (1 < l.length ∧ b1 / 64 = 2)
    · rw [if_pos c1]
      by_cases d : b0 % 32 * 64 + b1 % 64 ≥ 128
      · left; rw [if_pos d]; exact ⟨by omega, by omega, by omega, c1.2.2, d, rfl⟩
      · right; right; right; rw [if_neg d]; exact ⟨by omega, rfl⟩
    · rw [if_neg c1]
      by_cases c2 : b0 / 16 = 14 ∧ (1 < l.length ∧ b1 / 64 = 2) ∧ (2 < l.length ∧ b2 / 64 = 2)
      · rw [if_pos c2]
        split
        · rename_i d; right; left; exact ⟨by omega, by omega, by omega, c2.2.1.2, c2.2.2.2, d.1, by omega, rfl⟩
        · right; right; right; exact ⟨by omega, rfl⟩
      · rw [if_neg c2]
        by_cases c3 : b0 / 8 = 30 ∧ (1 < l.length ∧ b1 / 64 = 2) ∧ (2 < l.length ∧ b2 / 64 = 2) ∧ (3 < l.length ∧ b3 / 64 = 2)
        · rw [if_pos c3]
          split
          · rename_i d; right; right; left; exact ⟨by omega, by omega, by omega, c3.2.1.2, c3.2.2.1.2, c3.2.2.2.2, d.1, by omega, rfl⟩
          · right; right; right; exact ⟨by omega, rfl⟩
        · rw [if_neg c3]; right; right; right; exact ⟨by omega, rfl⟩

theorem dec_width (l : List UInt8) (h : l ≠ []) : 1 ≤ (dec l).2 ∧ (dec l).2 ≤ l.length ∧ (dec l).2 ≤ 4 := by
  have hp := len_pos h
  rcases dec_cases l h with ⟨_, e⟩ | ⟨_, _, _, _, _, e⟩ | ⟨_, _, _, _, _, _, _, e⟩ | ⟨_, _, _, _, _, _, _, _, e⟩ | ⟨_, e⟩ <;> rw [e] <;> simp <;> omega

theorem dec_max (l : List UInt8) (h : l ≠ []) : (dec l).1 ≤ 1114111 := by
  have h0 := byte_lt l 0; have h1 := byte_lt l 1; have h2 := byte_lt l 2; have h3 := byte_lt l 3
  rcases dec_cases l h with ⟨_, e⟩ | ⟨_, _, _, _, _, e⟩ | ⟨_, _, _, _, _, _, _, e⟩ | ⟨_, _, _, _, _, _, _, _, e⟩ | ⟨_, e⟩ <;> rw [e] <;> simp <;> omega

/-- What is decoded and isn't stray is a rune. -/
theorem dec_rune (l : List UInt8) (h : l ≠ []) : (dec l).1 < 55296 ∨ (57344 ≤ (dec l).1 ∧ (dec l).1 ≤ 1114111) := by
  have h0 := byte_lt l 0; have h1 := byte_lt l 1; have h2 := byte_lt l 2; have h3 := byte_lt l 3
  rcases dec_cases l h with ⟨_, e⟩ | ⟨_, _, _, _, _, e⟩ | ⟨_, _, _, _, _, _, _, e⟩ | ⟨_, _, _, _, _, _, _, _, e⟩ | ⟨_, e⟩ <;> rw [e] <;> simp <;> omega

theorem cons_byte {l : List UInt8} (h : l ≠ []) : l = (l.getD 0 0) :: l.drop 1 := by
  cases l with
  | nil => exact absurd rfl h
  | cons a t => simp

theorem drop_byte {l : List UInt8} {k : Nat} (h : k < l.length) : l.drop k = (l.getD k 0) :: l.drop (k + 1) := by
  rw [List.drop_eq_getElem_cons h]
  simp [List.getD, h]

theorem take_bytes {l : List UInt8} : ∀ (n : Nat), n ≤ l.length → l.take n = (List.range n).map fun k => l.getD k 0
  | 0, _ => rfl
  | n + 1, h => by
    rw [List.take_succ_eq_append_getElem (by omega), take_bytes n (by omega), List.range_succ, List.map_append]
    have : n < l.length := by omega
    simp [List.getD, this]

theorem toU (b : UInt8) : ((b.toNat : Int)).toNat.toUInt8 = b := by simp
theorem nat_toU {n : Nat} {b : UInt8} (h : n = b.toNat) : n.toUInt8 = b := by rw [h]; simp

/-- What is decoded is encoded as it was. -/
theorem encode_dec (l : List UInt8) (h : l ≠ []) (hb : bad l = false) : Lib.encodeRune ((dec l).1 : Int) = l.take (dec l).2 := by
  have hw := dec_width l h
  rw [take_bytes _ hw.2.1]
  unfold Lib.encodeRune
  have h0 := byte_lt l 0; have h1 := byte_lt l 1; have h2 := byte_lt l 2; have h3 := byte_lt l 3
  rcases dec_cases l h with ⟨a, e⟩ | ⟨a, b, c, d, f, e⟩ | ⟨a, b, c, d, f, g, i, e⟩ | ⟨a, b, c, d, f, g, i, j, e⟩ | ⟨a, e⟩
  · rw [e, Lib.encodeRuneZ_one (by simp) (by simp; omega)]
    simp [List.range_succ]
    exact nat_toU rfl
  · rw [e, Lib.encodeRuneZ_two (by simp; omega) (by simp; omega)]
    simp only [List.map_cons, List.map_nil, List.range_succ, List.range_zero, List.nil_append, List.cons_append]
    congr 1
    · refine nat_toU ?_; change _ = byte l 0; omega
    · congr 1; refine nat_toU ?_; change _ = byte l 1; omega
  · rw [e, Lib.encodeRuneZ_three (by simp; omega)]
    simp only [List.map_cons, List.map_nil, List.range_succ, List.range_zero, List.nil_append, List.cons_append]
    congr 1
    · refine nat_toU ?_; change _ = byte l 0; omega
    · congr 1
      · refine nat_toU ?_; change _ = byte l 1; omega
      · congr 1; refine nat_toU ?_; change _ = byte l 2; omega
  · rw [e, Lib.encodeRuneZ_four (by simp; omega) (by simp; omega)]
    simp only [List.map_cons, List.map_nil, List.range_succ, List.range_zero, List.nil_append, List.cons_append]
    congr 1
    · refine nat_toU ?_; change _ = byte l 0; omega
    · congr 1
      · refine nat_toU ?_; change _ = byte l 1; omega
      · congr 1
        · refine nat_toU ?_; change _ = byte l 2; omega
        · congr 1; refine nat_toU ?_; change _ = byte l 3; omega
  · rw [bad, e] at hb; simp at hb

/-- How the program tells a stray byte: FFFD is told, and its own three bytes don't stand there. -/
theorem stray_eq (l : List UInt8) (h : l ≠ []) : (((dec l).1 : Int) == 65533 && !Lib.hasPrefix l [239, 191, 189]) = bad l := by
  by_cases hb : bad l = true
  · have e : dec l = (65533, 1) := by simpa [bad] using hb
    rw [hb, e]
    simp only [Bool.and_eq_true, Bool.not_eq_true']
    refine ⟨by decide, ?_⟩
    cases hp : Lib.hasPrefix l [239, 191, 189] with
    | false => rfl
    | true =>
      rw [Lib.hasPrefix, List.isPrefixOf_iff_prefix] at hp
      obtain ⟨t, rfl⟩ := hp
      exfalso
      simp [dec, Lib.decodeN] at e
  · have hb' : bad l = false := by simpa using hb
    rw [hb']
    by_cases e : (dec l).1 = 65533
    · have he := encode_dec l h hb'
      rw [e] at he
      have hp : Lib.hasPrefix l [239, 191, 189] = true := by
        rw [Lib.hasPrefix, List.isPrefixOf_iff_prefix]
        have : Lib.encodeRune ((65533 : Nat) : Int) = [239, 191, 189] := by decide
        rw [← this, he]
        exact List.take_prefix _ _
      rw [hp]; simp
    · have : (((dec l).1 : Int) == 65533) = false := by simp; omega
      rw [this]; rfl
end Go.Proofs.Ytldacdpejncbnaa.Gly
