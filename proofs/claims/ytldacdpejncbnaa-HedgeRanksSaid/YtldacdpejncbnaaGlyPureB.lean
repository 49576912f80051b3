/-
  Plain mathematics under the statements of layer 1 (glyph), second part: the runes of a text; hexadecimal digits; quotes, and how they are read.
-/
import Derived.Test.YtldacdpejncbnaaGlyPure
namespace Go.Proofs.Ytldacdpejncbnaa.Gly
open Go

theorem drop_lt {l : List UInt8} (h : l ≠ []) : (l.drop (dec l).2).length < l.length := by
  have := dec_width l h
  rw [List.length_drop]; omega

/-- The runes of a text, if it is UTF-8. -/
def runes (l : List UInt8) : Option (List Nat) :=
  if _h : l = [] then some [] else if bad l then none else (runes (l.drop (dec l).2)).map fun t => (dec l).1 :: t
termination_by l.length
decreasing_by exact drop_lt (by assumption)

theorem runes_nil : runes [] = some [] := by rw [runes]; rfl
theorem runes_bad {l : List UInt8} (h : l ≠ []) (hb : bad l = true) : runes l = none := by rw [runes, dif_neg h, if_pos hb]
theorem runes_step {l : List UInt8} (h : l ≠ []) (hb : bad l = false) : runes l = (runes (l.drop (dec l).2)).map fun t => (dec l).1 :: t := by
  rw [runes, dif_neg h, if_neg (by rw [hb]; exact Bool.false_ne_true)]

/-- How many, from a number on: what a loop that counts them does. -/
def cnt (n : Nat) (l : List UInt8) : Option Nat := (runes l).map fun t => n + t.length
theorem cnt_nil (n : Nat) : cnt n [] = some n := by simp [cnt, runes_nil]
theorem cnt_bad {n : Nat} {l : List UInt8} (h : l ≠ []) (hb : bad l = true) : cnt n l = none := by simp [cnt, runes_bad h hb]
theorem cnt_step {n : Nat} {l : List UInt8} (h : l ≠ []) (hb : bad l = false) : cnt n l = cnt (n + 1) (l.drop (dec l).2) := by
  rw [cnt, cnt, runes_step h hb]
  cases runes (l.drop (dec l).2) with
  | none => rfl
  | some t => simp; omega

theorem runes_len : ∀ (k : Nat) (l : List UInt8), l.length ≤ k → ∀ t, runes l = some t → t.length ≤ l.length
  | 0, l, hk, t, ht => by
    have : l = [] := List.eq_nil_of_length_eq_zero (by omega)
    subst this; rw [runes_nil] at ht; cases ht; simp
  | k + 1, l, hk, t, ht => by
    by_cases h : l = []
    · subst h; rw [runes_nil] at ht; cases ht; simp
    · cases hb : bad l with
      | true => rw [runes_bad h hb] at ht; cases ht
      | false =>
        rw [runes_step h hb] at ht
        have hl := drop_lt h
        cases hr : runes (l.drop (dec l).2) with
        | none => rw [hr] at ht; cases ht
        | some u =>
          rw [hr] at ht; cases ht
          have := runes_len k _ (by omega) u hr
          simp; omega

/-! ### kinds of runes -/
def letterB (r : Nat) : Bool := decide (97 ≤ r ∧ r ≤ 122)
def digitB (r : Nat) : Bool := decide (48 ≤ r ∧ r ≤ 57)
/-- A plain rune: none of the ten signs # @ : * , ( ) " \ ; -/
def plainB (r : Nat) : Bool := decide (33 ≤ r ∧ (r < 127 ∨ 160 < r) ∧ r ≠ 35 ∧ r ≠ 64 ∧ r ≠ 58 ∧ r ≠ 42 ∧ r ≠ 44 ∧ r ≠ 40 ∧ r ≠ 41 ∧ r ≠ 34 ∧ r ≠ 92 ∧ r ≠ 59)

/-- What Id's loop answers, n runes being behind it. -/
def idFrom (n : Nat) (l : List UInt8) : Bool :=
  if _h : l = [] then decide (0 < n) else if 24 < n + 1 then false else if plainB (dec l).1 && !bad l then idFrom (n + 1) (l.drop (dec l).2) else false
termination_by l.length
decreasing_by exact drop_lt (by assumption)
def idB (l : List UInt8) : Bool := idFrom 0 l
theorem idFrom_nil (n : Nat) : idFrom n [] = decide (0 < n) := by rw [idFrom]; rfl
theorem idFrom_step (n : Nat) {l : List UInt8} (h : l ≠ []) : idFrom n l = if 24 < n + 1 then false else if plainB (dec l).1 && !bad l then idFrom (n + 1) (l.drop (dec l).2) else false := by
  rw [idFrom, dif_neg h]

/-! ### hexadecimal -/
def hexDigit (d : Nat) : UInt8 := if d < 10 then (48 + d).toUInt8 else (87 + d).toUInt8
def hex (n : Nat) : List UInt8 := if _h : n < 16 then [hexDigit n] else hex (n / 16) ++ [hexDigit (n % 16)]
termination_by n
decreasing_by omega

theorem hex_small {n : Nat} (h : n < 16) : hex n = [hexDigit n] := by rw [hex, dif_pos h]
theorem hex_step {n : Nat} (h : ¬ n < 16) : hex n = hex (n / 16) ++ [hexDigit (n % 16)] := by rw [hex, dif_neg h]

theorem hex_len : ∀ (k n : Nat), n < 16 ^ (k + 1) → 1 ≤ (hex n).length ∧ (hex n).length ≤ k + 1
  | 0, n, h => by rw [hex_small (by simpa using h)]; simp
  | k + 1, n, h => by
    by_cases hs : n < 16
    · rw [hex_small hs]; simp
    · rw [hex_step hs]
      have := hex_len k (n / 16) (by rw [Nat.pow_succ] at h; omega)
      simp; omega

/-! ### quotes -/
/-- Does a rune stand in a quote as it is? -/
def shown (r : Nat) : Bool := decide (r ≠ 34 ∧ r ≠ 92 ∧ (32 ≤ r ∧ r ≤ 126 ∨ 161 ≤ r))
/-- A quote's piece for what stands at the front. -/
def piece (l : List UInt8) : List UInt8 :=
  if bad l then [92, 120, 123] ++ hex (byte l 0) ++ [125] else if shown (dec l).1 then l.take (dec l).2 else [92, 117, 123] ++ hex (dec l).1 ++ [125]
/-- The inside of a quote. -/
def qb (l : List UInt8) : List UInt8 :=
  if _h : l = [] then [] else piece l ++ qb (l.drop (dec l).2)
termination_by l.length
decreasing_by exact drop_lt (by assumption)

theorem qb_nil : qb [] = [] := by rw [qb]; rfl
theorem qb_step {l : List UInt8} (h : l ≠ []) : qb l = piece l ++ qb (l.drop (dec l).2) := by rw [qb, dif_neg h]

def quote (l : List UInt8) : List UInt8 := [34] ++ qb l ++ [34]

theorem piece_len (l : List UInt8) (h : l ≠ []) : (piece l).length ≤ 10 := by
  have hm := dec_max l h
  have hw := dec_width l h
  have hb := byte_lt l 0
  unfold piece
  split
  · have := hex_len 1 (byte l 0) (by omega); simp; omega
  · split
    · rw [List.length_take]; omega
    · have := hex_len 5 (dec l).1 (by omega); simp; omega

theorem qb_len : ∀ (k : Nat) (l : List UInt8), l.length ≤ k → (qb l).length ≤ 10 * l.length
  | 0, l, hk => by
    have : l = [] := List.eq_nil_of_length_eq_zero (by omega)
    subst this; rw [qb_nil]; simp
  | k + 1, l, hk => by
    by_cases h : l = []
    · subst h; rw [qb_nil]; simp
    · have hl := drop_lt h
      have := qb_len k (l.drop (dec l).2) (by omega)
      have hp := piece_len l h
      have := dec_width l h
      rw [qb_step h, List.length_append, List.length_drop] at *
      omega

theorem quote_len (l : List UInt8) : (quote l).length ≤ 10 * l.length + 2 := by
  have := qb_len l.length l (Nat.le_refl _)
  simp [quote]; omega
end Go.Proofs.Ytldacdpejncbnaa.Gly
