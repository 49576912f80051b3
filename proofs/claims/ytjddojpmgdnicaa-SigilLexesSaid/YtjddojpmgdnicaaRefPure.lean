/-
  Plain mathematics under the document's answers of layer 1 (stileref01): what its Rune computes is the decoder's rune, by the kinds of first bytes.
-/
import Derived.Test.YtjddojpmgdnicaaGlyPureB
namespace Go.Proofs.Ytjddojpmgdnicaa.Gly
open Go

/-- What Rune answers: the rune and its width, or noughts. -/
def rr (l : List UInt8) : Nat × Nat := if bad l then (0, 0) else dec l

theorem rr_bad {l : List UInt8} (h : bad l = true) : rr l = (0, 0) := by rw [rr, if_pos h]
theorem rr_good {l : List UInt8} (h : bad l = false) : rr l = dec l := by rw [rr, if_neg (by rw [h]; exact Bool.false_ne_true)]
theorem rr_of_bad {l : List UInt8} (h : dec l = (65533, 1)) : rr l = (0, 0) := rr_bad (by simp [bad, h])
theorem rr_of_good {l : List UInt8} {r n : Nat} (h : dec l = (r, n)) (hn : n ≠ 1 ∨ r ≠ 65533) : rr l = (r, n) := by
  rw [rr_good, h]
  simp only [bad, h, decide_eq_false_iff_not, Prod.mk.injEq]
  omega

theorem rr_one {l : List UInt8} (h : byte l 0 < 128) : rr l = (byte l 0, 1) := rr_of_good (by rw [dec_def, Lib.decodeN, if_pos h]) (by omega)
theorem rr_none {l : List UInt8} (h : (128 ≤ byte l 0 ∧ byte l 0 < 192) ∨ 248 ≤ byte l 0) : rr l = (0, 0) := by
  have hb := byte_lt l 0
  exact rr_of_bad (by rw [dec_def, Lib.decodeN, if_neg (by omega), if_neg (by omega), if_neg (by omega), if_neg (by omega)])

/-- The number that Rune has behind k bytes. -/
def pr (l : List UInt8) (base : Nat) : Nat → Int
  | 0 => 0
  | 1 => (byte l 0 : Int) - base
  | k + 2 => pr l base (k + 1) * 64 + (byte l (k + 1) : Int) - 128
theorem pr_one (l : List UInt8) (base : Nat) : pr l base 1 = (byte l 0 : Int) - base := rfl
theorem pr_succ (l : List UInt8) (base k : Nat) (h : 1 ≤ k) : pr l base (k + 1) = pr l base k * 64 + (byte l k : Int) - 128 := by
  obtain ⟨k, rfl⟩ : ∃ j, k = j + 1 := ⟨k - 1, by omega⟩
  rfl

def cont (l : List UInt8) (k : Nat) : Prop := 128 ≤ byte l k ∧ byte l k ≤ 191

theorem rr_short {l : List UInt8} {n : Nat} (hn : (192 ≤ byte l 0 ∧ byte l 0 < 224 ∧ n = 2) ∨ (224 ≤ byte l 0 ∧ byte l 0 < 240 ∧ n = 3) ∨ (240 ≤ byte l 0 ∧ byte l 0 < 248 ∧ n = 4)) (h : l.length < n) : rr l = (0, 0) := by
  refine rr_of_bad ?_
  rw [dec_def, Lib.decodeN, if_neg (by omega), if_neg (by omega), if_neg (by omega), if_neg (by omega)]

theorem rr_cut {l : List UInt8} {n k : Nat} (hn : (192 ≤ byte l 0 ∧ byte l 0 < 224 ∧ n = 2) ∨ (224 ≤ byte l 0 ∧ byte l 0 < 240 ∧ n = 3) ∨ (240 ≤ byte l 0 ∧ byte l 0 < 248 ∧ n = 4)) (h1 : 1 ≤ k) (h2 : k < n) (h : byte l k < 128 ∨ 191 < byte l k) : rr l = (0, 0) := by
  refine rr_of_bad ?_
  have b0 := byte_lt l 0; have b1 := byte_lt l 1; have b2 := byte_lt l 2; have b3 := byte_lt l 3
  rw [dec_def, Lib.decodeN]
  have : k = 1 ∨ k = 2 ∨ k = 3 := by omega
  rcases this with rfl | rfl | rfl
  all_goals
    rw [if_neg (by omega)]
    repeat' split
    all_goals first | rfl | (exfalso; omega)

/-- What Rune tells at the end, all the further bytes being such. -/
def out (r : Int) (n least : Nat) : Nat × Nat := if r < least ∨ 1114111 < r ∨ (55296 ≤ r ∧ r ≤ 57343) then (0, 0) else (r.toNat, n)
theorem out_bad {r : Int} {n least : Nat} (h : r < least ∨ 1114111 < r ∨ (55296 ≤ r ∧ r ≤ 57343)) : out r n least = (0, 0) := by rw [out, if_pos h]
theorem out_good {r : Int} {n least : Nat} (h : ¬ (r < least ∨ 1114111 < r ∨ (55296 ≤ r ∧ r ≤ 57343))) : out r n least = (r.toNat, n) := by rw [out, if_neg h]

theorem rr_two {l : List UInt8} (h : 192 ≤ byte l 0 ∧ byte l 0 < 224) (hl : 2 ≤ l.length) (c1 : cont l 1) : rr l = out (pr l 192 2) 2 128 := by
  obtain ⟨c1, d1⟩ := c1
  have e : pr l 192 2 = ((byte l 0 % 32 * 64 + byte l 1 % 64 : Nat) : Int) := by simp only [pr, Nat.zero_add]; omega
  rw [e]
  have hd : dec l = if byte l 0 % 32 * 64 + byte l 1 % 64 ≥ 128 then (byte l 0 % 32 * 64 + byte l 1 % 64, 2) else (65533, 1) := by
    rw [dec_def, Lib.decodeN, if_neg (by omega), if_pos (by omega)]
  by_cases c : byte l 0 % 32 * 64 + byte l 1 % 64 ≥ 128
  · rw [out_good (by omega), rr_of_good (hd.trans (if_pos c)) (by omega), Int.toNat_natCast]
  · rw [out_bad (by omega), rr_of_bad (hd.trans (if_neg c))]

theorem rr_three {l : List UInt8} (h : 224 ≤ byte l 0 ∧ byte l 0 < 240) (hl : 3 ≤ l.length) (c1 : cont l 1) (c2 : cont l 2) : rr l = out (pr l 224 3) 3 2048 := by
  obtain ⟨c1, d1⟩ := c1
  obtain ⟨c2, d2⟩ := c2
  have e : pr l 224 3 = ((byte l 0 % 16 * 4096 + byte l 1 % 64 * 64 + byte l 2 % 64 : Nat) : Int) := by simp only [pr, Nat.zero_add, Nat.reduceAdd]; omega
  rw [e]
  have hd : dec l = if byte l 0 % 16 * 4096 + byte l 1 % 64 * 64 + byte l 2 % 64 ≥ 2048 ∧ (byte l 0 % 16 * 4096 + byte l 1 % 64 * 64 + byte l 2 % 64 < 55296 ∨ (57344 ≤ byte l 0 % 16 * 4096 + byte l 1 % 64 * 64 + byte l 2 % 64 ∧ byte l 0 % 16 * 4096 + byte l 1 % 64 * 64 + byte l 2 % 64 ≤ 1114111)) then (byte l 0 % 16 * 4096 + byte l 1 % 64 * 64 + byte l 2 % 64, 3) else (65533, 1) := by
    rw [dec_def, Lib.decodeN, if_neg (by omega), if_neg (by omega), if_pos (by omega)]
  generalize byte l 0 % 16 * 4096 + byte l 1 % 64 * 64 + byte l 2 % 64 = v at hd ⊢
  by_cases c : v ≥ 2048 ∧ (v < 55296 ∨ (57344 ≤ v ∧ v ≤ 1114111))
  · rw [out_good (by omega), rr_of_good (hd.trans (if_pos c)) (by omega), Int.toNat_natCast]
  · rw [out_bad (by omega), rr_of_bad (hd.trans (if_neg c))]

theorem rr_four {l : List UInt8} (h : 240 ≤ byte l 0 ∧ byte l 0 < 248) (hl : 4 ≤ l.length) (c1 : cont l 1) (c2 : cont l 2) (c3 : cont l 3) : rr l = out (pr l 240 4) 4 65536 := by
  obtain ⟨c1, d1⟩ := c1
  obtain ⟨c2, d2⟩ := c2
  obtain ⟨c3, d3⟩ := c3
  have e : pr l 240 4 = ((byte l 0 % 8 * 262144 + byte l 1 % 64 * 4096 + byte l 2 % 64 * 64 + byte l 3 % 64 : Nat) : Int) := by simp only [pr, Nat.zero_add, Nat.reduceAdd]; omega
  rw [e]
  have hd : dec l = if byte l 0 % 8 * 262144 + byte l 1 % 64 * 4096 + byte l 2 % 64 * 64 + byte l 3 % 64 ≥ 65536 ∧ (byte l 0 % 8 * 262144 + byte l 1 % 64 * 4096 + byte l 2 % 64 * 64 + byte l 3 % 64 < 55296 ∨ (57344 ≤ byte l 0 % 8 * 262144 + byte l 1 % 64 * 4096 + byte l 2 % 64 * 64 + byte l 3 % 64 ∧ byte l 0 % 8 * 262144 + byte l 1 % 64 * 4096 + byte l 2 % 64 * 64 + byte l 3 % 64 ≤ 1114111)) then (byte l 0 % 8 * 262144 + byte l 1 % 64 * 4096 + byte l 2 % 64 * 64 + byte l 3 % 64, 4) else (65533, 1) := by
    rw [dec_def, Lib.decodeN, if_neg (by omega), if_neg (by omega), if_neg (by omega), if_pos (by omega)]
  generalize byte l 0 % 8 * 262144 + byte l 1 % 64 * 4096 + byte l 2 % 64 * 64 + byte l 3 % 64 = v at hd ⊢
  by_cases c : v ≥ 65536 ∧ (v < 55296 ∨ (57344 ≤ v ∧ v ≤ 1114111))
  · rw [out_good (by omega), rr_of_good (hd.trans (if_pos c)) (by omega), Int.toNat_natCast]
  · rw [out_bad (by omega), rr_of_bad (hd.trans (if_neg c))]

/-- Bounds of the number on the way. -/
theorem pr_bounds (l : List UInt8) (base : Nat) (h0 : base ≤ byte l 0) (h1 : byte l 0 < base + 32) : ∀ k, 1 ≤ k → k ≤ 4 → (∀ j, 1 ≤ j → j < k → cont l j) → 0 ≤ pr l base k ∧ pr l base k ≤ 16777215
  | 0, h, _, _ => by omega
  | 1, _, _, _ => by rw [pr_one]; omega
  | 2, _, _, hc => by have := hc 1 (by omega) (by omega); unfold cont at this; simp only [pr, Nat.zero_add]; omega
  | 3, _, _, hc => by have := hc 1 (by omega) (by omega); have := hc 2 (by omega) (by omega); unfold cont at *; simp only [pr, Nat.zero_add, Nat.reduceAdd]; omega
  | 4, _, _, hc => by have := hc 1 (by omega) (by omega); have := hc 2 (by omega) (by omega); have := hc 3 (by omega) (by omega); unfold cont at *; simp only [pr, Nat.zero_add, Nat.reduceAdd]; omega
  | k + 5, _, h, _ => by omega
end Go.Proofs.Ytjddojpmgdnicaa.Gly
