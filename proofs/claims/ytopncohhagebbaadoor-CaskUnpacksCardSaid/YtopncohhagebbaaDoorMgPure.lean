/-
  Plain mathematics under the statements of layer 1 (glyph): texts as lists of bytes, their runes, quotes, clips and order. No program is named here.
  Plain mathematics under the statements of layer 1 (glyph), second part: the runes of a text; hexadecimal digits; quotes, and how they are read.
  Plain mathematics: names, and ids, as lists of bytes.
  Plain mathematics of layer 5 (tract): nodes as trees; sizes, depths, what is good, references, whether there is a This; a list of nodes that is gone through.
  Plain mathematics under Clip, and under texts that are cut behind a rune.
  Plain mathematics under the statements of layer 6 (sigil): the tokens of a list of runes, with their places. No program is named here.
  Plain mathematics under the statements of layer 6 (sigil): tokens don't hang on the place; a text behind a line's end; tokens' texts with blanks behind them.
  Plain mathematics of layer 7 (grammar): what each part of the grammar reads of a list of tokens, and where it stops.
  Plain mathematics under package sigil's Lex: what its loop keeps.
  Plain mathematics of layer 7 (grammar): what is read where nothing is wrong is good, and no greater than what was taken.
  Plain mathematics of layer 7 (grammar): which errors there are; what a text's tokens are like.
  Plain mathematics of layer 7 (grammar): examples, reckoned.
-/
import Derived.Lib.DecodeN
import Derived.Lib.RuneBytes
import Derived.Lib.Strings
namespace Go.Proofs.YtopncohhagebbaaDoor.Gly
open Go

/-- The rune at the front of a list of bytes, and its width: the model's own decoder. -/
def dec (l : List UInt8) : Nat × Nat := Lib.decodeN l.length (l.getD 0 0).toNat (l.getD 1 0).toNat (l.getD 2 0).toNat (l.getD 3 0).toNat

theorem getD_get (s : ByteArray) (i : Nat) : s.data.toList.getD i 0 = s.get! i := by
  cases s with
  | mk d =>
    show d.toList.getD i 0 = d[i]!
    by_cases h : i < d.size
    · rw [getElem!_pos d i h]; simp [List.getD, h]
    · rw [getElem!_neg d i h]; simp [List.getD, h]; rfl

theorem getD_drop (l : List UInt8) (p k : Nat) : (l.drop p).getD k 0 = l.getD (p + k) 0 := by simp [List.getD, List.getElem?_drop]

theorem dec_at (s : ByteArray) (p : Nat) : Utf8.decode s p = dec (s.data.toList.drop p) := by
  unfold dec
  rw [Lib.decode_at, getD_drop, getD_drop, getD_drop, getD_drop, List.length_drop, ← getD_get, ← getD_get, ← getD_get, ← getD_get, Lib.size_eq]
  rfl

/-- A byte that is no part of a rune's form stands at the front. -/
def bad (l : List UInt8) : Bool := decide (dec l = (65533, 1))

def byte (l : List UInt8) (k : Nat) : Nat := (l.getD k 0).toNat
theorem byte_lt (l : List UInt8) (k : Nat) : byte l k < 256 := (l.getD k 0).toNat_lt
theorem dec_def (l : List UInt8) : dec l = Lib.decodeN l.length (byte l 0) (byte l 1) (byte l 2) (byte l 3) := rfl

theorem len_pos {l : List UInt8} (h : l ≠ []) : 0 < l.length := List.length_pos_iff.2 h

set_option maxHeartbeats 2000000 in
/-- The four kinds of runes' forms, and stray bytes. -/
theorem dec_cases (l : List UInt8) (_h : l ≠ []) :
    (byte l 0 < 128 ∧ dec l = (byte l 0, 1)) ∨
    (192 ≤ byte l 0 ∧ byte l 0 < 224 ∧ 2 ≤ l.length ∧ byte l 1 / 64 = 2 ∧ 128 ≤ byte l 0 % 32 * 64 + byte l 1 % 64 ∧ dec l = (byte l 0 % 32 * 64 + byte l 1 % 64, 2)) ∨
    (224 ≤ byte l 0 ∧ byte l 0 < 240 ∧ 3 ≤ l.length ∧ byte l 1 / 64 = 2 ∧ byte l 2 / 64 = 2 ∧ 2048 ≤ byte l 0 % 16 * 4096 + byte l 1 % 64 * 64 + byte l 2 % 64 ∧
      (byte l 0 % 16 * 4096 + byte l 1 % 64 * 64 + byte l 2 % 64 < 55296 ∨ 57344 ≤ byte l 0 % 16 * 4096 + byte l 1 % 64 * 64 + byte l 2 % 64) ∧
      dec l = (byte l 0 % 16 * 4096 + byte l 1 % 64 * 64 + byte l 2 % 64, 3)) ∨
    (240 ≤ byte l 0 ∧ byte l 0 < 248 ∧ 4 ≤ l.length ∧ byte l 1 / 64 = 2 ∧ byte l 2 / 64 = 2 ∧ byte l 3 / 64 = 2 ∧ 65536 ≤ byte l 0 % 8 * 262144 + byte l 1 % 64 * 4096 + byte l 2 % 64 * 64 + byte l 3 % 64 ∧
      byte l 0 % 8 * 262144 + byte l 1 % 64 * 4096 + byte l 2 % 64 * 64 + byte l 3 % 64 ≤ 1114111 ∧
      dec l = (byte l 0 % 8 * 262144 + byte l 1 % 64 * 4096 + byte l 2 % 64 * 64 + byte l 3 % 64, 4)) ∨
    (128 ≤ byte l 0 ∧ dec l = (65533, 1)) := by
  have h0 := byte_lt l 0; have h1 := byte_lt l 1; have h2 := byte_lt l 2; have h3 := byte_lt l 3
  rw [dec_def]
  generalize byte l 0 = b0 at *
  generalize byte l 1 = b1 at *
  generalize byte l 2 = b2 at *
  generalize byte l 3 = b3 at *
  unfold Lib.decodeN
  by_cases c0 : b0 < 128
  · left; rw [if_pos c0]; exact ⟨c0, rfl⟩
  · right
    rw [if_neg c0]
    by_cases c1 : b0 / 32 = 6 ∧ (1 < l.length ∧ b1 / 64 = 2)
    · rw [if_pos c1]
      by_cases d : b0 % 32 * 64 + b1 % 64 ≥ 128
      · left; rw [if_pos d]; exact ⟨by omega, by omega, by omega, c1.2.2, d, rfl⟩
      · right; right; right; rw [if_neg d]; exact ⟨by omega, rfl⟩
    · rw [if_neg c1]
      by_cases c2 : b0 / 16 = 14 ∧ (1 < l.length ∧ b1 / 64 = 2) ∧ (2 < l.length ∧ b2 / 64 = 2)
      · rw [if_pos c2]
        split
        · rename_i d; right; left; exact ⟨by omega, by omega, by omega, c2.2.1.2, c2.2.2.2, d.1, by omega, rfl⟩
        · right; right; right; exact ⟨by omega, rfl⟩
      · rw [if_neg c2]
        by_cases c3 : b0 / 8 = 30 ∧ (1 < l.length ∧ b1 / 64 = 2) ∧ (2 < l.length ∧ b2 / 64 = 2) ∧ (3 < l.length ∧ b3 / 64 = 2)
        · rw [if_pos c3]
          split
          · rename_i d; right; right; left; exact ⟨by omega, by omega, by omega, c3.2.1.2, c3.2.2.1.2, c3.2.2.2.2, d.1, by omega, rfl⟩
          · right; right; right; exact ⟨by omega, rfl⟩
        · rw [if_neg c3]; right; right; right; exact ⟨by omega, rfl⟩

theorem dec_width (l : List UInt8) (h : l ≠ []) : 1 ≤ (dec l).2 ∧ (dec l).2 ≤ l.length ∧ (dec l).2 ≤ 4 := by
  have hp := len_pos h
  rcases dec_cases l h with ⟨_, e⟩ | ⟨_, _, _, _, _, e⟩ | ⟨_, _, _, _, _, _, _, e⟩ | ⟨_, _, _, _, _, _, _, _, e⟩ | ⟨_, e⟩ <;> rw [e] <;> simp <;> omega

theorem dec_max (l : List UInt8) (h : l ≠ []) : (dec l).1 ≤ 1114111 := by
  have h0 := byte_lt l 0; have h1 := byte_lt l 1; have h2 := byte_lt l 2; have h3 := byte_lt l 3
  rcases dec_cases l h with ⟨_, e⟩ | ⟨_, _, _, _, _, e⟩ | ⟨_, _, _, _, _, _, _, e⟩ | ⟨_, _, _, _, _, _, _, _, e⟩ | ⟨_, e⟩ <;> rw [e] <;> simp <;> omega

/-- What is decoded and isn't stray is a rune. -/
theorem dec_rune (l : List UInt8) (h : l ≠ []) : (dec l).1 < 55296 ∨ (57344 ≤ (dec l).1 ∧ (dec l).1 ≤ 1114111) := by
  have h0 := byte_lt l 0; have h1 := byte_lt l 1; have h2 := byte_lt l 2; have h3 := byte_lt l 3
  rcases dec_cases l h with ⟨_, e⟩ | ⟨_, _, _, _, _, e⟩ | ⟨_, _, _, _, _, _, _, e⟩ | ⟨_, _, _, _, _, _, _, _, e⟩ | ⟨_, e⟩ <;> rw [e] <;> simp <;> omega

theorem cons_byte {l : List UInt8} (h : l ≠ []) : l = (l.getD 0 0) :: l.drop 1 := by
  cases l with
  | nil => exact absurd rfl h
  | cons a t => simp

theorem drop_byte {l : List UInt8} {k : Nat} (h : k < l.length) : l.drop k = (l.getD k 0) :: l.drop (k + 1) := by
  rw [List.drop_eq_getElem_cons h]
  simp [List.getD, h]

theorem take_bytes {l : List UInt8} : ∀ (n : Nat), n ≤ l.length → l.take n = (List.range n).map fun k => l.getD k 0
  | 0, _ => rfl
  | n + 1, h => by
    rw [List.take_succ_eq_append_getElem (by omega), take_bytes n (by omega), List.range_succ, List.map_append]
    have : n < l.length := by omega
    simp [List.getD, this]

theorem toU (b : UInt8) : ((b.toNat : Int)).toNat.toUInt8 = b := by simp
theorem nat_toU {n : Nat} {b : UInt8} (h : n = b.toNat) : n.toUInt8 = b := by rw [h]; simp

/-- What is decoded is encoded as it was. -/
theorem encode_dec (l : List UInt8) (h : l ≠ []) (hb : bad l = false) : Lib.encodeRune ((dec l).1 : Int) = l.take (dec l).2 := by
  have hw := dec_width l h
  rw [take_bytes _ hw.2.1]
  unfold Lib.encodeRune
  have h0 := byte_lt l 0; have h1 := byte_lt l 1; have h2 := byte_lt l 2; have h3 := byte_lt l 3
  rcases dec_cases l h with ⟨a, e⟩ | ⟨a, b, c, d, f, e⟩ | ⟨a, b, c, d, f, g, i, e⟩ | ⟨a, b, c, d, f, g, i, j, e⟩ | ⟨a, e⟩
  · rw [e, Lib.encodeRuneZ_one (by simp) (by simp; omega)]
    simp [List.range_succ]
    exact nat_toU rfl
  · rw [e, Lib.encodeRuneZ_two (by simp; omega) (by simp; omega)]
    simp only [List.map_cons, List.map_nil, List.range_succ, List.range_zero, List.nil_append, List.cons_append]
    congr 1
    · refine nat_toU ?_; change _ = byte l 0; omega
    · congr 1; refine nat_toU ?_; change _ = byte l 1; omega
  · rw [e, Lib.encodeRuneZ_three (by simp; omega)]
    simp only [List.map_cons, List.map_nil, List.range_succ, List.range_zero, List.nil_append, List.cons_append]
    congr 1
    · refine nat_toU ?_; change _ = byte l 0; omega
    · congr 1
      · refine nat_toU ?_; change _ = byte l 1; omega
      · congr 1; refine nat_toU ?_; change _ = byte l 2; omega
  · rw [e, Lib.encodeRuneZ_four (by simp; omega) (by simp; omega)]
    simp only [List.map_cons, List.map_nil, List.range_succ, List.range_zero, List.nil_append, List.cons_append]
    congr 1
    · refine nat_toU ?_; change _ = byte l 0; omega
    · congr 1
      · refine nat_toU ?_; change _ = byte l 1; omega
      · congr 1
        · refine nat_toU ?_; change _ = byte l 2; omega
        · congr 1; refine nat_toU ?_; change _ = byte l 3; omega
  · rw [bad, e] at hb; simp at hb

/-- How the program tells a stray byte: FFFD is told, and its own three bytes don't stand there. -/
theorem stray_eq (l : List UInt8) (h : l ≠ []) : (((dec l).1 : Int) == 65533 && !Lib.hasPrefix l [239, 191, 189]) = bad l := by
  by_cases hb : bad l = true
  · have e : dec l = (65533, 1) := by simpa [bad] using hb
    rw [hb, e]
    simp only [Bool.and_eq_true, Bool.not_eq_true']
    refine ⟨by decide, ?_⟩
    cases hp : Lib.hasPrefix l [239, 191, 189] with
    | false => rfl
    | true =>
      rw [Lib.hasPrefix, List.isPrefixOf_iff_prefix] at hp
      obtain ⟨t, rfl⟩ := hp
      exfalso
      simp [dec, Lib.decodeN] at e
  · have hb' : bad l = false := by simpa using hb
    rw [hb']
    by_cases e : (dec l).1 = 65533
    · have he := encode_dec l h hb'
      rw [e] at he
      have hp : Lib.hasPrefix l [239, 191, 189] = true := by
        rw [Lib.hasPrefix, List.isPrefixOf_iff_prefix]
        have : Lib.encodeRune ((65533 : Nat) : Int) = [239, 191, 189] := by decide
        rw [← this, he]
        exact List.take_prefix _ _
      rw [hp]; simp
    · have : (((dec l).1 : Int) == 65533) = false := by simp; omega
      rw [this]; rfl
end Go.Proofs.YtopncohhagebbaaDoor.Gly

namespace Go.Proofs.YtopncohhagebbaaDoor.Gly
open Go

theorem drop_lt {l : List UInt8} (h : l ≠ []) : (l.drop (dec l).2).length < l.length := by
  have := dec_width l h
  rw [List.length_drop]; omega

/-- The runes of a text, if it is UTF-8. -/
def runes (l : List UInt8) : Option (List Nat) :=
  if _h : l = [] then some [] else if bad l then none else (runes (l.drop (dec l).2)).map fun t => (dec l).1 :: t
termination_by l.length
decreasing_by exact drop_lt (by assumption)

theorem runes_nil : runes [] = some [] := by rw [runes]; rfl
theorem runes_bad {l : List UInt8} (h : l ≠ []) (hb : bad l = true) : runes l = none := by rw [runes, dif_neg h, if_pos hb]
theorem runes_step {l : List UInt8} (h : l ≠ []) (hb : bad l = false) : runes l = (runes (l.drop (dec l).2)).map fun t => (dec l).1 :: t := by
  rw [runes, dif_neg h, if_neg (by rw [hb]; exact Bool.false_ne_true)]

/-- How many, from a number on: what a loop that counts them does. -/
def cnt (n : Nat) (l : List UInt8) : Option Nat := (runes l).map fun t => n + t.length
theorem cnt_nil (n : Nat) : cnt n [] = some n := by simp [cnt, runes_nil]
theorem cnt_bad {n : Nat} {l : List UInt8} (h : l ≠ []) (hb : bad l = true) : cnt n l = none := by simp [cnt, runes_bad h hb]
theorem cnt_step {n : Nat} {l : List UInt8} (h : l ≠ []) (hb : bad l = false) : cnt n l = cnt (n + 1) (l.drop (dec l).2) := by
  rw [cnt, cnt, runes_step h hb]
  cases runes (l.drop (dec l).2) with
  | none => rfl
  | some t => simp; omega

theorem runes_len : ∀ (k : Nat) (l : List UInt8), l.length ≤ k → ∀ t, runes l = some t → t.length ≤ l.length
  | 0, l, hk, t, ht => by
    have : l = [] := List.eq_nil_of_length_eq_zero (by omega)
    subst this; rw [runes_nil] at ht; cases ht; simp
  | k + 1, l, hk, t, ht => by
    by_cases h : l = []
    · subst h; rw [runes_nil] at ht; cases ht; simp
    · cases hb : bad l with
      | true => rw [runes_bad h hb] at ht; cases ht
      | false =>
        rw [runes_step h hb] at ht
        have hl := drop_lt h
        cases hr : runes (l.drop (dec l).2) with
        | none => rw [hr] at ht; cases ht
        | some u =>
          rw [hr] at ht; cases ht
          have := runes_len k _ (by omega) u hr
          simp; omega

/-! ### kinds of runes -/
def letterB (r : Nat) : Bool := decide (97 ≤ r ∧ r ≤ 122)
def digitB (r : Nat) : Bool := decide (48 ≤ r ∧ r ≤ 57)
/-- A plain rune: none of the ten signs # @ : * , ( ) " \ ; -/
def plainB (r : Nat) : Bool := decide (33 ≤ r ∧ (r < 127 ∨ 160 < r) ∧ r ≠ 35 ∧ r ≠ 64 ∧ r ≠ 58 ∧ r ≠ 42 ∧ r ≠ 44 ∧ r ≠ 40 ∧ r ≠ 41 ∧ r ≠ 34 ∧ r ≠ 92 ∧ r ≠ 59)

/-- What Id's loop answers, n runes being behind it. -/
def idFrom (n : Nat) (l : List UInt8) : Bool :=
  if _h : l = [] then decide (0 < n) else if 24 < n + 1 then false else if plainB (dec l).1 && !bad l then idFrom (n + 1) (l.drop (dec l).2) else false
termination_by l.length
decreasing_by exact drop_lt (by assumption)
def idB (l : List UInt8) : Bool := idFrom 0 l
theorem idFrom_nil (n : Nat) : idFrom n [] = decide (0 < n) := by rw [idFrom]; rfl
theorem idFrom_step (n : Nat) {l : List UInt8} (h : l ≠ []) : idFrom n l = if 24 < n + 1 then false else if plainB (dec l).1 && !bad l then idFrom (n + 1) (l.drop (dec l).2) else false := by
  rw [idFrom, dif_neg h]

/-! ### hexadecimal -/
def hexDigit (d : Nat) : UInt8 := if d < 10 then (48 + d).toUInt8 else (87 + d).toUInt8
def hex (n : Nat) : List UInt8 := if _h : n < 16 then [hexDigit n] else hex (n / 16) ++ [hexDigit (n % 16)]
termination_by n
decreasing_by omega

theorem hex_small {n : Nat} (h : n < 16) : hex n = [hexDigit n] := by rw [hex, dif_pos h]
theorem hex_step {n : Nat} (h : ¬ n < 16) : hex n = hex (n / 16) ++ [hexDigit (n % 16)] := by rw [hex, dif_neg h]

theorem hex_len : ∀ (k n : Nat), n < 16 ^ (k + 1) → 1 ≤ (hex n).length ∧ (hex n).length ≤ k + 1
  | 0, n, h => by rw [hex_small (by simpa using h)]; simp
  | k + 1, n, h => by
    by_cases hs : n < 16
    · rw [hex_small hs]; simp
    · rw [hex_step hs]
      have := hex_len k (n / 16) (by rw [Nat.pow_succ] at h; omega)
      simp; omega

/-! ### quotes -/
/-- Does a rune stand in a quote as it is? -/
def shown (r : Nat) : Bool := decide (r ≠ 34 ∧ r ≠ 92 ∧ (32 ≤ r ∧ r ≤ 126 ∨ 161 ≤ r))
/-- A quote's piece for what stands at the front. -/
def piece (l : List UInt8) : List UInt8 :=
  if bad l then [92, 120, 123] ++ hex (byte l 0) ++ [125] else if shown (dec l).1 then l.take (dec l).2 else [92, 117, 123] ++ hex (dec l).1 ++ [125]
/-- The inside of a quote. -/
def qb (l : List UInt8) : List UInt8 :=
  if _h : l = [] then [] else piece l ++ qb (l.drop (dec l).2)
termination_by l.length
decreasing_by exact drop_lt (by assumption)

theorem qb_nil : qb [] = [] := by rw [qb]; rfl
theorem qb_step {l : List UInt8} (h : l ≠ []) : qb l = piece l ++ qb (l.drop (dec l).2) := by rw [qb, dif_neg h]

def quote (l : List UInt8) : List UInt8 := [34] ++ qb l ++ [34]

theorem piece_len (l : List UInt8) (h : l ≠ []) : (piece l).length ≤ 10 := by
  have hm := dec_max l h
  have hw := dec_width l h
  have hb := byte_lt l 0
  unfold piece
  split
  · have := hex_len 1 (byte l 0) (by omega); simp; omega
  · split
    · rw [List.length_take]; omega
    · have := hex_len 5 (dec l).1 (by omega); simp; omega

theorem qb_len : ∀ (k : Nat) (l : List UInt8), l.length ≤ k → (qb l).length ≤ 10 * l.length
  | 0, l, hk => by
    have : l = [] := List.eq_nil_of_length_eq_zero (by omega)
    subst this; rw [qb_nil]; simp
  | k + 1, l, hk => by
    by_cases h : l = []
    · subst h; rw [qb_nil]; simp
    · have hl := drop_lt h
      have := qb_len k (l.drop (dec l).2) (by omega)
      have hp := piece_len l h
      have := dec_width l h
      rw [qb_step h, List.length_append, List.length_drop] at *
      omega

theorem quote_len (l : List UInt8) : (quote l).length ≤ 10 * l.length + 2 := by
  have := qb_len l.length l (Nat.le_refl _)
  simp [quote]; omega
end Go.Proofs.YtopncohhagebbaaDoor.Gly

namespace Go.Proofs.YtopncohhagebbaaDoor
open Go.RowKit
namespace Gly

def nameOk : Bool → List UInt8 → Bool
  | _, [] => true
  | first, c :: t => (letterB c.toNat || (!first && (digitB c.toNat || c.toNat == 95))) && nameOk false t
def nameB (l : List UInt8) : Bool := decide (1 ≤ l.length ∧ l.length ≤ 16) && nameOk true l

theorem nameOk_step {l : List UInt8} (h : l ≠ []) (first : Bool) : nameOk first l = ((letterB (byte l 0) || (!first && (digitB (byte l 0) || byte l 0 == 95))) && nameOk false (l.drop 1)) := by
  cases l with
  | nil => exact absurd rfl h
  | cons c t => rfl
theorem dec_low {l : List UInt8} (_h : l ≠ []) (hb : byte l 0 < 128) : dec l = (byte l 0, 1) := by rw [dec_def, Lib.decodeN, if_pos hb]
theorem dec_high {l : List UInt8} (h : l ≠ []) (hb : 128 ≤ byte l 0) : 128 ≤ (dec l).1 := by
  have h0 := byte_lt l 0; have h1 := byte_lt l 1; have h2 := byte_lt l 2; have h3 := byte_lt l 3
  rcases dec_cases l h with ⟨_, e⟩ | ⟨_, _, _, _, _, e⟩ | ⟨_, _, _, _, _, _, _, e⟩ | ⟨_, _, _, _, _, _, _, _, e⟩ | ⟨_, e⟩ <;> rw [e] <;> simp <;> omega

/-- The test at a rune is the test at its first byte; where it is met the rune is one byte. -/
theorem nameOk_rune {l : List UInt8} (h : l ≠ []) (first : Bool) : nameOk first l = ((letterB (dec l).1 || (!first && (digitB (dec l).1 || (dec l).1 == 95))) && nameOk false (l.drop (dec l).2)) := by
  rw [nameOk_step h]
  by_cases hb : byte l 0 < 128
  · rw [dec_low h hb]
  · have := dec_high h (by omega)
    have a1 : letterB (byte l 0) = false := by simp [letterB]; omega
    have a2 : digitB (byte l 0) = false := by simp [digitB]; omega
    have a3 : (byte l 0 == 95) = false := by simp; omega
    have b1 : letterB (dec l).1 = false := by simp [letterB]; omega
    have b2 : digitB (dec l).1 = false := by simp [digitB]; omega
    have b3 : ((dec l).1 == 95) = false := by simp; omega
    rw [a1, a2, a3, b1, b2, b3]
    cases first <;> rfl
end Gly
namespace Gly

theorem idFrom_runes : ∀ (k : Nat) (l : List UInt8), l.length ≤ k → ∀ n, n ≤ 24 → idFrom n l = match runes l with | some t => decide (0 < n + t.length ∧ n + t.length ≤ 24) && t.all plainB | none => false
  | k, l, hk, n, hn => by
    by_cases h : l = []
    · subst h
      rw [idFrom_nil, runes_nil]
      simp
      omega
    · have hl := drop_lt h
      obtain ⟨k, rfl⟩ : ∃ j, k = j + 1 := ⟨k - 1, by omega⟩
      rw [idFrom_step n h]
      cases hb : bad l with
      | true =>
        rw [runes_bad h hb]
        simp
      | false =>
        rw [runes_step h hb]
        by_cases h24 : 24 < n + 1
        · rw [if_pos h24]
          cases runes (l.drop (dec l).2) with
          | none => rfl
          | some t => simp; omega
        · rw [if_neg h24]
          have ih := idFrom_runes k (l.drop (dec l).2) (by omega) (n + 1) (by omega)
          cases hp : plainB (dec l).1 with
          | true =>
            simp only [Bool.not_false, Bool.and_self, if_true]
            rw [ih]
            cases runes (l.drop (dec l).2) with
            | none => rfl
            | some t =>
              simp only [Option.map_some, List.length_cons, List.all_cons, hp, Bool.true_and]
              rw [show decide (0 < n + 1 + t.length ∧ n + 1 + t.length ≤ 24) = decide (0 < n + (t.length + 1) ∧ n + (t.length + 1) ≤ 24) from decide_eq_decide.2 ⟨fun _ => by omega, fun _ => by omega⟩]
          | false =>
            cases runes (l.drop (dec l).2) with
            | none => rfl
            | some t => simp [hp]
theorem idB_runes (l : List UInt8) : idB l = match runes l with | some t => decide (1 ≤ t.length ∧ t.length ≤ 24) && t.all plainB | none => false := by
  rw [idB, idFrom_runes l.length l (Nat.le_refl _) 0 (by omega)]
  cases runes l with
  | none => rfl
  | some t =>
    simp only [Nat.zero_add]
    rfl
end Gly
end Go.Proofs.YtopncohhagebbaaDoor

namespace Go.Proofs.YtopncohhagebbaaDoor
open Go.RowKit
namespace Tr

/-- A node: its kind, its two texts, its kids. -/
inductive Nd where
  | mk (k : Int) (a b : ByteArray) (kids : List Nd)
namespace Nd
def kind : Nd → Int
  | .mk k _ _ _ => k
def ta : Nd → ByteArray
  | .mk _ a _ _ => a
def tb : Nd → ByteArray
  | .mk _ _ b _ => b
def kids : Nd → List Nd
  | .mk _ _ _ l => l
end Nd

mutual
def size : Nd → Nat
  | .mk _ _ _ l => 1 + sizes l
def sizes : List Nd → Nat
  | [] => 0
  | n :: r => size n + sizes r
end
mutual
def depth : Nd → Nat
  | .mk _ _ _ l => 1 + depths l
def depths : List Nd → Nat
  | [] => 0
  | n :: r => max (depth n) (depths r)
end

theorem size_pos (n : Nd) : 1 ≤ size n := by cases n; rw [size]; omega
theorem depth_pos (n : Nd) : 1 ≤ depth n := by cases n; rw [depth]; omega
theorem size_kids (n : Nd) : size n = 1 + sizes n.kids := by cases n; rw [size]; rfl
theorem depth_kids (n : Nd) : depth n = 1 + depths n.kids := by cases n; rw [depth]; rfl
theorem sizes_append : ∀ l m : List Nd, sizes (l ++ m) = sizes l + sizes m
  | [], m => by simp [sizes]
  | n :: l, m => by rw [List.cons_append, sizes, sizes, sizes_append l m]; omega
theorem sizes_mem : ∀ {l : List Nd} {n : Nd}, n ∈ l → size n ≤ sizes l
  | m :: l, n, h => by
    rw [sizes]
    rcases List.mem_cons.1 h with rfl | h
    · omega
    · have := sizes_mem h; omega
theorem sizes_len : ∀ l : List Nd, l.length ≤ sizes l
  | [] => Nat.zero_le _
  | n :: l => by have := sizes_len l; have := size_pos n; rw [sizes, List.length_cons]; omega
theorem sizes_take {l : List Nd} {i : Nat} (h : i < l.length) : sizes (l.take (i + 1)) = sizes (l.take i) + size l[i] := by
  rw [List.take_succ_eq_append_getElem h, sizes_append]
  simp [sizes]
theorem sizes_part (l : List Nd) (i : Nat) : sizes (l.take i) ≤ sizes l := by
  have h : sizes (l.take i ++ l.drop i) = sizes l := by rw [List.take_append_drop]
  rw [sizes_append] at h
  omega
theorem depth_le_size : ∀ (k : Nat) (n : Nd), size n ≤ k → depth n ≤ size n
  | 0, n, h => by have := size_pos n; omega
  | k + 1, .mk _ _ _ l, h => by
    rw [size] at h
    have hl : ∀ l' : List Nd, sizes l' ≤ k → depths l' ≤ sizes l' := by
      intro l'
      induction l' with
      | nil => intro _; rw [depths]; omega
      | cons n r ih =>
        intro h'
        rw [sizes] at h'
        have h1 := depth_le_size k n (by omega)
        have h2 := ih (by omega)
        rw [depths, sizes]
        omega
    have := hl l (by omega)
    rw [depth, size]
    omega
theorem depth_le (n : Nd) : depth n ≤ size n := depth_le_size _ n (Nat.le_refl _)
theorem depths_le : ∀ l : List Nd, depths l ≤ sizes l
  | [] => by rw [depths]; omega
  | n :: l => by
    have := depth_le n
    have := depths_le l
    rw [depths, sizes]
    omega
theorem depths_append : ∀ l m : List Nd, depths (l ++ m) = max (depths l) (depths m)
  | [], m => by simp [depths]
  | n :: l, m => by rw [List.cons_append, depths, depths, depths_append l m]; omega
theorem depths_take {l : List Nd} {i : Nat} (h : i < l.length) : depths (l.take (i + 1)) = max (depths (l.take i)) (depth l[i]) := by
  rw [List.take_succ_eq_append_getElem h, depths_append]
  simp [depths]

/-! ### what is good -/
def none0 : ByteArray := ⟨#[]⟩
def nil (s : ByteArray) : Bool := s.data.toList.isEmpty
def word (s : ByteArray) : Bool := Gly.nameB s.data.toList && (!s.data.toList == [116, 121, 112, 101] && !s.data.toList == [114, 101, 108] && !s.data.toList == [116, 104, 105, 115])
def fits : Nd → Bool
  | .mk k a b l =>
    (k == 1 && (nil a && nil b && l.length == 0)) || (k == 2 && (word a && nil b && l.length == 0)) || (k == 3 && (word a && word b && l.length == 0)) ||
    ((k == 4 || k == 5) && (nil a && nil b && decide (2 ≤ l.length))) || (k == 6 && (nil a && nil b && l.length == 2))
mutual
def good : Nd → Bool
  | .mk k a b l => goods l && fits (.mk k a b l)
def goods : List Nd → Bool
  | [] => true
  | n :: r => good n && goods r
end
theorem good_kids (n : Nd) : good n = (goods n.kids && fits n) := by cases n; rw [good]; rfl
theorem goods_append : ∀ l m : List Nd, goods (l ++ m) = (goods l && goods m)
  | [], m => by simp [goods]
  | n :: l, m => by rw [List.cons_append, goods, goods, goods_append l m, Bool.and_assoc]
theorem goods_take {l : List Nd} {i : Nat} (h : i < l.length) : goods (l.take (i + 1)) = (goods (l.take i) && good l[i]) := by
  rw [List.take_succ_eq_append_getElem h, goods_append]
  simp [goods]
theorem goods_part {l : List Nd} {i : Nat} (h : goods (l.take i) = false) : goods l = false := by
  have e : goods (l.take i ++ l.drop i) = goods l := by rw [List.take_append_drop]
  rw [← e, goods_append, h, Bool.false_and]
theorem goods_mem : ∀ {l : List Nd} {n : Nd}, goods l = true → n ∈ l → good n = true
  | m :: l, n, h, hm => by
    rw [goods, Bool.and_eq_true] at h
    rcases List.mem_cons.1 hm with rfl | hm
    · exact h.1
    · exact goods_mem h.2 hm
/-- The error of a node: 0, if there is none. -/
def errOf (n : Nd) : Int := if good n = false then 2 else if 24 < size n then 3 else if 8 < depth n then 12 else 0

/-! ### references -/
structure Rf where
  via : ByteArray
  rel : ByteArray
  odd : Bool
/-- Whether a kid's place turns odd and even. -/
def flip (k : Int) (i : Nat) : Bool := k == 6 && i == 1
mutual
def refs : Nd → Bool → List Rf
  | .mk k a b l, odd => if k = 2 then [⟨none0, a, odd⟩] else if k = 3 then [⟨a, b, odd⟩] else refss k l 0 odd
def refss (k : Int) : List Nd → Nat → Bool → List Rf
  | [], _, _ => []
  | n :: r, i, odd => refs n (odd != flip k i) ++ refss k r (i + 1) odd
end
mutual
def direct : Nd → Bool → Bool → Bool
  | .mk k _ _ l, odd, own => directs k l 0 odd own || (k == 1 && odd == own)
def directs (k : Int) : List Nd → Nat → Bool → Bool → Bool
  | [], _, _, _ => false
  | n :: r, i, odd, own => direct n odd (own != flip k i) || directs k r (i + 1) odd own
end
theorem refss_append (k : Int) (odd : Bool) : ∀ (l m : List Nd) (i : Nat), refss k (l ++ m) i odd = refss k l i odd ++ refss k m (i + l.length) odd
  | [], m, i => by simp [refss]
  | n :: l, m, i => by rw [List.cons_append, refss, refss, refss_append k odd l m (i + 1), List.append_assoc, List.length_cons, show i + 1 + l.length = i + (l.length + 1) by omega]
theorem refss_take (k : Int) (odd : Bool) {l : List Nd} {i : Nat} (h : i < l.length) : refss k (l.take (i + 1)) 0 odd = refss k (l.take i) 0 odd ++ refs l[i] (odd != flip k i) := by
  rw [List.take_succ_eq_append_getElem h, refss_append, List.length_take, Nat.min_eq_left (by omega)]
  simp [refss]
theorem directs_append (k : Int) (odd own : Bool) : ∀ (l m : List Nd) (i : Nat), directs k (l ++ m) i odd own = (directs k l i odd own || directs k m (i + l.length) odd own)
  | [], m, i => by simp [directs]
  | n :: l, m, i => by rw [List.cons_append, directs, directs, directs_append k odd own l m (i + 1), Bool.or_assoc, List.length_cons, show i + 1 + l.length = i + (l.length + 1) by omega]
theorem directs_take (k : Int) (odd own : Bool) {l : List Nd} {i : Nat} (h : i < l.length) : directs k (l.take (i + 1)) 0 odd own = (directs k (l.take i) 0 odd own || direct l[i] odd (own != flip k i)) := by
  rw [List.take_succ_eq_append_getElem h, directs_append, List.length_take, Nat.min_eq_left (by omega)]
  simp [directs]
theorem directs_part (k : Int) (odd own : Bool) {l : List Nd} {i : Nat} (h : directs k (l.take i) 0 odd own = true) : directs k l 0 odd own = true := by
  have e : directs k (l.take i ++ l.drop i) 0 odd own = directs k l 0 odd own := by rw [List.take_append_drop]
  rw [← e, directs_append, h, Bool.true_or]
mutual
theorem refs_len : ∀ (n : Nd) (odd : Bool), (refs n odd).length ≤ size n
  | .mk k a b l, odd => by
    have h := refss_len k l 0 odd
    rw [refs, size]
    split
    · simp
    · split
      · simp
      · omega
theorem refss_len (k : Int) : ∀ (l : List Nd) (i : Nat) (odd : Bool), (refss k l i odd).length ≤ sizes l
  | [], i, odd => by simp [refss]
  | n :: r, i, odd => by
    have h1 := refs_len n (odd != flip k i)
    have h2 := refss_len k r (i + 1) odd
    rw [refss, sizes, List.length_append]
    omega
end

/-! ### a list of nodes that is gone through: the one that is seen next stands first -/
section
variable {σ : Type} (go : σ → Nd → Nat → Bool) (stp : σ → Nd → Nat → σ)
def push (n : Nd) (d : Nat) (r : List (Nd × Nat)) : List (Nd × Nat) := (n.kids.map fun x => (x, d + 1)).reverse ++ r
def run : Nat → List (Nd × Nat) → σ → Bool × σ
  | 0, _, s => (true, s)
  | _ + 1, [], s => (true, s)
  | f + 1, (n, d) :: r, s => if go s n d then run f (push n d r) (stp s n d) else (false, stp s n d)
end
def tot (l : List (Nd × Nat)) : Nat := sizes (l.map Prod.fst)
theorem tot_cons (n : Nd) (d : Nat) (r : List (Nd × Nat)) : tot ((n, d) :: r) = size n + tot r := by simp [tot, sizes]
theorem sizes_reverse : ∀ l : List Nd, sizes l.reverse = sizes l
  | [] => rfl
  | n :: l => by rw [List.reverse_cons, sizes_append, sizes_reverse l]; simp [sizes]; omega
theorem fst_push (n : Nd) (d : Nat) (r : List (Nd × Nat)) : (push n d r).map Prod.fst = n.kids.reverse ++ r.map Prod.fst := by
  simp [push, List.map_reverse, Function.comp_def]
theorem tot_push (n : Nd) (d : Nat) (r : List (Nd × Nat)) : tot (push n d r) + 1 = tot ((n, d) :: r) := by
  rw [tot, fst_push, sizes_append, sizes_reverse, tot_cons, size_kids]
  show _ + tot r + 1 = _
  omega
theorem goods_reverse : ∀ l : List Nd, goods l.reverse = goods l
  | [] => rfl
  | n :: l => by rw [List.reverse_cons, goods_append, goods_reverse l, goods, Bool.and_comm]; simp [goods]

theorem run_good : ∀ (f : Nat) (l : List (Nd × Nat)), tot l ≤ f → (run (σ := Unit) (fun _ n _ => fits n) (fun _ _ _ => ()) f l ()).1 = goods (l.map Prod.fst)
  | 0, [], _ => rfl
  | 0, (n, d) :: r, h => by rw [tot_cons] at h; have := size_pos n; omega
  | f + 1, [], _ => rfl
  | f + 1, (n, d) :: r, h => by
    have hp := tot_push n d r
    rw [run, List.map_cons, goods, good_kids]
    cases hf : fits n with
    | true =>
      rw [if_pos rfl, run_good f _ (by omega), fst_push, goods_append, goods_reverse, Bool.and_true]
    | false => simp
theorem run_size : ∀ (f : Nat) (l : List (Nd × Nat)) (s : Nat), tot l ≤ f → run (σ := Nat) (fun _ _ _ => true) (fun s _ _ => s + 1) f l s = (true, s + tot l)
  | 0, [], s, _ => rfl
  | 0, (n, d) :: r, s, h => by rw [tot_cons] at h; have := size_pos n; omega
  | f + 1, [], s, _ => rfl
  | f + 1, (n, d) :: r, s, h => by
    have hp := tot_push n d r
    rw [run, if_pos rfl, run_size f _ _ (by omega)]
    simp only [Prod.mk.injEq, true_and]
    omega
/-- The greatest depth of a list's nodes, each as deep as it stands. -/
def deep : List (Nd × Nat) → Nat
  | [] => 0
  | (n, d) :: r => max (d + (depth n - 1)) (deep r)
theorem deep_append : ∀ l m : List (Nd × Nat), deep (l ++ m) = max (deep l) (deep m)
  | [], m => by simp [deep]
  | (n, d) :: l, m => by rw [List.cons_append, deep, deep, deep_append l m]; omega
theorem deep_reverse : ∀ l : List (Nd × Nat), deep l.reverse = deep l
  | [] => rfl
  | (n, d) :: l => by rw [List.reverse_cons, deep_append, deep_reverse l]; simp [deep]; omega
theorem deep_kids (d : Nat) : ∀ l : List Nd, max d (deep (l.map fun x => (x, d + 1))) = d + depths l
  | [] => by simp [deep, depths]
  | n :: l => by
    have := deep_kids d l
    have := depth_pos n
    rw [List.map_cons, deep, depths]
    omega
theorem run_depth : ∀ (f : Nat) (l : List (Nd × Nat)) (s : Nat), tot l ≤ f → run (σ := Nat) (fun _ _ _ => true) (fun s _ d => max s d) f l s = (true, max s (deep l))
  | 0, [], s, _ => by simp [run, deep]
  | 0, (n, d) :: r, s, h => by rw [tot_cons] at h; have := size_pos n; omega
  | f + 1, [], s, _ => by simp [run, deep]
  | f + 1, (n, d) :: r, s, h => by
    have hp := tot_push n d r
    have hk := deep_kids d n.kids
    have hd := depth_kids n
    rw [run, if_pos rfl, run_depth f _ _ (by omega), push, deep_append, deep_reverse, deep]
    simp only [Prod.mk.injEq, true_and]
    omega
end Tr
end Go.Proofs.YtopncohhagebbaaDoor

namespace Go.Proofs.YtopncohhagebbaaDoor.Gly
open Go

/-- The bytes of the first n runes. -/
def pre : Nat → List UInt8 → Nat
  | 0, _ => 0
  | n + 1, l => if l = [] then 0 else (dec l).2 + pre n (l.drop (dec l).2)

theorem pre_nil (n : Nat) : pre n [] = 0 := by cases n <;> simp [pre]
theorem pre_step {n : Nat} {l : List UInt8} (h : l ≠ []) : pre (n + 1) l = (dec l).2 + pre n (l.drop (dec l).2) := by rw [pre, if_neg h]

theorem pre_le : ∀ (n : Nat) (l : List UInt8), pre n l ≤ l.length
  | 0, _ => Nat.zero_le _
  | n + 1, l => by
    by_cases h : l = []
    · subst h; rw [pre_nil]; exact Nat.zero_le _
    · rw [pre_step h]
      have := pre_le n (l.drop (dec l).2)
      have hw := dec_width l h
      rw [List.length_drop] at this
      omega

theorem pre_back : ∀ (n : Nat) (l : List UInt8), l.drop (pre n l) ≠ [] → pre (n + 1) l = pre n l + (dec (l.drop (pre n l))).2
  | 0, l, h => by
    have h' : l ≠ [] := by simpa [pre] using h
    rw [pre_step h']
    simp [pre]
  | n + 1, l, h => by
    have hl : l ≠ [] := by
      intro e; subst e; simp at h
    rw [pre_step hl] at h
    rw [← List.drop_drop] at h
    rw [pre_step hl, pre_back n _ h, pre_step hl, ← List.drop_drop]
    omega

theorem pre_stop : ∀ (n : Nat) (l : List UInt8), l.drop (pre n l) = [] → pre (n + 1) l = pre n l
  | 0, l, h => by
    have h' : l = [] := by simpa [pre] using h
    subst h'; rw [pre_nil, pre_nil]
  | n + 1, l, h => by
    by_cases hl : l = []
    · subst hl; rw [pre_nil, pre_nil]
    · rw [pre_step hl, ← List.drop_drop] at h
      rw [pre_step hl, pre_stop n _ h, pre_step hl]

theorem pre_full {k : Nat} {l : List UInt8} (h : l.drop (pre k l) = []) : ∀ n, k ≤ n → pre n l = l.length := by
  have base : pre k l = l.length := by
    have h1 := pre_le k l
    have h2 := congrArg List.length h
    rw [List.length_drop] at h2
    simp at h2
    omega
  have step : ∀ d, pre (k + d) l = l.length := by
    intro d
    induction d with
    | zero => exact base
    | succ d ih =>
      have : l.drop (pre (k + d) l) = [] := by rw [ih]; exact List.drop_length
      rw [← Nat.add_assoc, pre_stop _ _ this, ih]
  intro n hn
  have := step (n - k)
  rwa [show k + (n - k) = n by omega] at this

theorem runes_drop : ∀ (n : Nat) (l : List UInt8) (t : List Nat), runes l = some t → runes (l.drop (pre n l)) = some (t.drop n)
  | 0, l, t, h => by simpa [pre] using h
  | n + 1, l, t, h => by
    by_cases hl : l = []
    · subst hl
      rw [runes_nil] at h; cases h
      rw [pre_nil]; simp [runes_nil]
    · cases hb : bad l with
      | true => rw [runes_bad hl hb] at h; cases h
      | false =>
        rw [runes_step hl hb] at h
        cases hu : runes (l.drop (dec l).2) with
        | none => rw [hu] at h; cases h
        | some u =>
          rw [hu] at h; cases h
          rw [pre_step hl, ← List.drop_drop]
          simpa using runes_drop n _ u hu

theorem runes_some_nil {l : List UInt8} (h : runes l = some []) : l = [] := by
  apply Classical.byContradiction
  intro hl
  cases hb : bad l with
  | true => rw [runes_bad hl hb] at h; cases h
  | false =>
    rw [runes_step hl hb] at h
    cases hu : runes (l.drop (dec l).2) with
    | none => rw [hu] at h; cases h
    | some u => rw [hu] at h; cases h
theorem runes_good {l : List UInt8} {t : List Nat} (h : runes l = some t) (hl : l ≠ []) : bad l = false := by
  cases hb : bad l with
  | true => rw [runes_bad hl hb] at h; cases h
  | false => rfl
theorem runes_ne {l : List UInt8} {t : List Nat} (h : runes l = some t) (ht : t ≠ []) : l ≠ [] := by
  intro e; subst e; rw [runes_nil] at h; exact ht (Option.some.inj h).symm

theorem pre_all {l : List UInt8} {t : List Nat} (h : runes l = some t) {n : Nat} (hn : t.length ≤ n) : pre n l = l.length := by
  refine pre_full (k := t.length) ?_ n hn
  have := runes_drop t.length l t h
  rw [List.drop_length] at this
  exact runes_some_nil this

/-! ### what is decoded hangs on the rune's own bytes -/
theorem byte_take {l : List UInt8} {m k : Nat} (h : k < m) : byte (l.take m) k = byte l k := by
  unfold byte
  rw [List.getD, List.getD, List.getElem?_take, if_pos h]
theorem dec_of2 {l : List UInt8} (h : 192 ≤ byte l 0 ∧ byte l 0 < 224) (hl : 2 ≤ l.length) (c1 : byte l 1 / 64 = 2) (v : 128 ≤ byte l 0 % 32 * 64 + byte l 1 % 64) : dec l = (byte l 0 % 32 * 64 + byte l 1 % 64, 2) := by
  rw [dec_def, Lib.decodeN, if_neg (by omega), if_pos (by omega), if_pos v]
theorem dec_of3 {l : List UInt8} (h : 224 ≤ byte l 0 ∧ byte l 0 < 240) (hl : 3 ≤ l.length) (c1 : byte l 1 / 64 = 2) (c2 : byte l 2 / 64 = 2) (v : 2048 ≤ byte l 0 % 16 * 4096 + byte l 1 % 64 * 64 + byte l 2 % 64)
    (u : byte l 0 % 16 * 4096 + byte l 1 % 64 * 64 + byte l 2 % 64 < 55296 ∨ 57344 ≤ byte l 0 % 16 * 4096 + byte l 1 % 64 * 64 + byte l 2 % 64) : dec l = (byte l 0 % 16 * 4096 + byte l 1 % 64 * 64 + byte l 2 % 64, 3) := by
  rw [dec_def, Lib.decodeN, if_neg (by omega), if_neg (by omega), if_pos (by omega), if_pos (by omega)]
theorem dec_of4 {l : List UInt8} (h : 240 ≤ byte l 0 ∧ byte l 0 < 248) (hl : 4 ≤ l.length) (c1 : byte l 1 / 64 = 2) (c2 : byte l 2 / 64 = 2) (c3 : byte l 3 / 64 = 2) (v : 65536 ≤ byte l 0 % 8 * 262144 + byte l 1 % 64 * 4096 + byte l 2 % 64 * 64 + byte l 3 % 64)
    (u : byte l 0 % 8 * 262144 + byte l 1 % 64 * 4096 + byte l 2 % 64 * 64 + byte l 3 % 64 ≤ 1114111) : dec l = (byte l 0 % 8 * 262144 + byte l 1 % 64 * 4096 + byte l 2 % 64 * 64 + byte l 3 % 64, 4) := by
  rw [dec_def, Lib.decodeN, if_neg (by omega), if_neg (by omega), if_neg (by omega), if_pos (by omega), if_pos (by omega)]

/-- Two lists that begin with the same bytes, as many as the rune has, have the same rune in front. -/
theorem dec_same {l k : List UInt8} (h : l ≠ []) (hb : bad l = false) (hk : (dec l).2 ≤ k.length) (hs : ∀ j, j < (dec l).2 → byte k j = byte l j) : dec k = dec l := by
  rcases dec_cases l h with ⟨a, e⟩ | ⟨a, b, c, d, f, e⟩ | ⟨a, b, c, d, f, g, i, e⟩ | ⟨a, b, c, d, f, g, i, j, e⟩ | ⟨a, e⟩
  · rw [e] at hk hs ⊢
    simp only at hk hs
    have e0 := hs 0 (by omega)
    rw [dec_def, Lib.decodeN, if_pos (by rw [e0]; exact a), e0]
  · rw [e] at hk hs
    simp only at hk hs
    have e0 := hs 0 (by omega); have e1 := hs 1 (by omega)
    rw [dec_of2 (by rw [e0]; exact ⟨a, b⟩) hk (by rw [e1]; exact d) (by rw [e0, e1]; exact f), e0, e1, e]
  · rw [e] at hk hs
    simp only at hk hs
    have e0 := hs 0 (by omega); have e1 := hs 1 (by omega); have e2 := hs 2 (by omega)
    rw [dec_of3 (by rw [e0]; exact ⟨a, b⟩) hk (by rw [e1]; exact d) (by rw [e2]; exact f) (by rw [e0, e1, e2]; exact g) (by rw [e0, e1, e2]; exact i), e0, e1, e2, e]
  · rw [e] at hk hs
    simp only at hk hs
    have e0 := hs 0 (by omega); have e1 := hs 1 (by omega); have e2 := hs 2 (by omega); have e3 := hs 3 (by omega)
    rw [dec_of4 (by rw [e0]; exact ⟨a, b⟩) hk (by rw [e1]; exact d) (by rw [e2]; exact f) (by rw [e3]; exact g) (by rw [e0, e1, e2, e3]; exact i) (by rw [e0, e1, e2, e3]; exact j), e0, e1, e2, e3, e]
  · rw [bad, e] at hb; simp at hb

theorem dec_take {l : List UInt8} {m : Nat} (h : l ≠ []) (hb : bad l = false) (hm : (dec l).2 ≤ m) : dec (l.take m) = dec l := by
  have hw := dec_width l h
  exact dec_same h hb (by rw [List.length_take]; omega) (fun j hj => byte_take (by omega))
theorem bad_take {l : List UInt8} {m : Nat} (h : l ≠ []) (hb : bad l = false) (hm : (dec l).2 ≤ m) : bad (l.take m) = false := by
  rw [bad, dec_take h hb hm]; exact hb

theorem take_ne {l : List UInt8} {m : Nat} (h : l ≠ []) (hm : 1 ≤ m) : l.take m ≠ [] := by
  cases l with
  | nil => exact absurd rfl h
  | cons a t =>
    obtain ⟨m, rfl⟩ : ∃ j, m = j + 1 := ⟨m - 1, by omega⟩
    simp

theorem runes_take : ∀ (n : Nat) (l : List UInt8) (t : List Nat), runes l = some t → runes (l.take (pre n l)) = some (t.take n)
  | 0, l, t, _ => by simp [pre, runes_nil]
  | n + 1, l, t, h => by
    by_cases hl : l = []
    · subst hl
      rw [runes_nil] at h; cases h
      simp [runes_nil]
    · have hb := runes_good h hl
      have hw := dec_width l hl
      rw [runes_step hl hb] at h
      cases hu : runes (l.drop (dec l).2) with
      | none => rw [hu] at h; cases h
      | some u =>
        rw [hu] at h; cases h
        rw [pre_step hl]
        have hm : (dec l).2 ≤ (dec l).2 + pre n (l.drop (dec l).2) := by omega
        rw [runes_step (take_ne hl (by omega)) (bad_take hl hb hm), dec_take hl hb hm, List.drop_take, show (dec l).2 + pre n (l.drop (dec l).2) - (dec l).2 = pre n (l.drop (dec l).2) by omega, runes_take n _ u hu]
        simp

theorem piece_take {l : List UInt8} {m : Nat} (h : l ≠ []) (hb : bad l = false) (hm : (dec l).2 ≤ m) : piece (l.take m) = piece l := by
  unfold piece
  rw [bad_take h hb hm, hb, dec_take h hb hm, List.take_take, Nat.min_eq_left hm]
  simp

/-- A quote's inside, cut behind a rune, is two quotes' insides. -/
theorem qb_split : ∀ (n : Nat) (l : List UInt8) (t : List Nat), runes l = some t → qb (l.take (pre n l)) ++ qb (l.drop (pre n l)) = qb l
  | 0, l, t, _ => by simp [pre, qb_nil]
  | n + 1, l, t, h => by
    by_cases hl : l = []
    · subst hl; simp [qb_nil]
    · have hb := runes_good h hl
      have hw := dec_width l hl
      rw [runes_step hl hb] at h
      cases hu : runes (l.drop (dec l).2) with
      | none => rw [hu] at h; cases h
      | some u =>
        rw [pre_step hl]
        have hm : (dec l).2 ≤ (dec l).2 + pre n (l.drop (dec l).2) := by omega
        rw [qb_step (take_ne hl (by omega)), piece_take hl hb hm, dec_take hl hb hm, List.drop_take, show (dec l).2 + pre n (l.drop (dec l).2) - (dec l).2 = pre n (l.drop (dec l).2) by omega, ← List.drop_drop, List.append_assoc, qb_split n _ u hu, ← qb_step hl]
end Go.Proofs.YtopncohhagebbaaDoor.Gly

namespace Go.Proofs.YtopncohhagebbaaDoor.Sg
open Go

/-! ### runes -/
def blank (r : Nat) : Bool := decide (r = 9 ∨ r = 10 ∨ r = 13 ∨ r = 32 ∨ r = 12288)
def letter (r : Nat) : Bool := decide (97 ≤ r ∧ r ≤ 122)
def inWord (r : Nat) : Bool := decide ((97 ≤ r ∧ r ≤ 122) ∨ (48 ≤ r ∧ r ≤ 57) ∨ r = 95)
def inLine (r : Nat) : Bool := decide (r ≠ 10)
def signs : List Nat := [123, 125, 91, 93, 40, 41, 61, 59, 44, 58, 35, 42, 124, 38, 45]
def sign (r : Nat) : Bool := signs.contains r

theorem letter_inWord {r : Nat} (h : letter r = true) : inWord r = true := by
  simp only [letter, inWord, decide_eq_true_eq] at *; exact .inl h
theorem letter_blank {r : Nat} (h : letter r = true) : blank r = false := by
  simp only [letter, blank, decide_eq_true_eq, decide_eq_false_iff_not] at *; omega
theorem inWord_low {r : Nat} (h : inWord r = true) : r < 128 := by
  simp only [inWord, decide_eq_true_eq] at h; omega
theorem sign_mem {r : Nat} (h : sign r = true) : r ∈ signs := by simpa [sign] using h
theorem sign_low {r : Nat} (h : sign r = true) : r < 128 ∧ blank r = false ∧ letter r = false ∧ r ≠ 47 ∧ 6 ≤ r := by
  have : ∀ x ∈ signs, x < 128 ∧ blank x = false ∧ letter x = false ∧ x ≠ 47 ∧ 6 ≤ x := by decide
  exact this r (sign_mem h)

/-! ### places -/
def behind (p : Nat × Nat) (r : Nat) : Nat × Nat := if r = 10 then (p.1 + 1, 1) else (p.1, p.2 + 1)
def behinds (p : Nat × Nat) (q : List Nat) : Nat × Nat := q.foldl behind p
theorem behinds_nil (p : Nat × Nat) : behinds p [] = p := rfl
theorem behinds_cons (p : Nat × Nat) (r : Nat) (t : List Nat) : behinds p (r :: t) = behinds (behind p r) t := rfl
theorem behinds_append (p : Nat × Nat) (a b : List Nat) : behinds p (a ++ b) = behinds (behinds p a) b := List.foldl_append ..
theorem behinds_add (p : Nat × Nat) (q : List Nat) (a b : Nat) : behinds (behinds p (q.take a)) ((q.drop a).take b) = behinds p (q.take (a + b)) := by
  rw [← behinds_append, List.take_add]

/-! ### pieces -/
def kindOf (t : List Nat) : Int := if t = [116, 121, 112, 101] then 2 else if t = [114, 101, 108] then 3 else if t = [116, 104, 105, 115] then 4 else 1
def run (f : Nat → Bool) (q : List Nat) : Nat := (q.takeWhile f).length
/-- A word at the front: its kind, and how many runes. -/
def word (q : List Nat) : Int × Nat := if 16 < run inWord q then (0, 0) else (kindOf (q.take (run inWord q)), run inWord q)
/-- The longest piece at the front: its kind (0: none, -1: a gap), and how many runes. -/
def piece : List Nat → Int × Nat
  | [] => (0, 0)
  | r :: t =>
    if blank r then (-1, run blank (r :: t))
    else if r = 47 ∧ t.headD 0 = 47 then (-1, run inLine (r :: t))
    else if letter r then word (r :: t)
    else if r = 45 ∧ t.headD 0 = 62 then (5, 2)
    else if sign r then (r, 1)
    else (0, 0)

theorem run_le (f : Nat → Bool) (q : List Nat) : run f q ≤ q.length := (List.takeWhile_sublist _).length_le
theorem run_cons {f : Nat → Bool} {r : Nat} (t : List Nat) (h : f r = true) : run f (r :: t) = run f t + 1 := by
  simp [run, h]
theorem run_stop {f : Nat → Bool} {r : Nat} (t : List Nat) (h : f r = false) : run f (r :: t) = 0 := by
  simp [run, h]
theorem run_nil (f : Nat → Bool) : run f [] = 0 := rfl
theorem run_take (f : Nat → Bool) : ∀ q : List Nat, q.take (run f q) = q.takeWhile f
  | [] => rfl
  | r :: t => by
    cases h : f r with
    | false => rw [run_stop _ h, List.takeWhile_cons, h]; rfl
    | true => rw [run_cons _ h, List.takeWhile_cons, h, List.take_succ_cons, run_take f t]; rfl
theorem run_drop (f : Nat → Bool) : ∀ q : List Nat, q.drop (run f q) = q.dropWhile f
  | [] => rfl
  | r :: t => by
    cases h : f r with
    | false => rw [run_stop _ h, List.dropWhile_cons, h]; rfl
    | true => rw [run_cons _ h, List.dropWhile_cons, h, List.drop_succ_cons, run_drop f t]; rfl
theorem run_all {f : Nat → Bool} : ∀ {q : List Nat}, ∀ x ∈ q.take (run f q), f x = true
  | [], x, hx => by simp at hx
  | r :: t, x, hx => by
    cases h : f r with
    | false => rw [run_stop _ h] at hx; simp at hx
    | true =>
      rw [run_cons _ h, List.take_succ_cons] at hx
      rcases List.mem_cons.1 hx with rfl | hx
      · exact h
      · exact run_all x hx
/-- A run that ends within a list isn't longer in a longer one. -/
theorem run_append {f : Nat → Bool} : ∀ {a : List Nat} (b : List Nat), (∃ x ∈ a, f x = false) → run f (a ++ b) = run f a
  | [], _, h => by obtain ⟨x, hx, _⟩ := h; simp at hx
  | r :: a, b, h => by
    cases hr : f r with
    | false => rw [List.cons_append, run_stop _ hr, run_stop _ hr]
    | true =>
      rw [List.cons_append, run_cons _ hr, run_cons _ hr, run_append b]
      obtain ⟨x, hx, hf⟩ := h
      rcases List.mem_cons.1 hx with rfl | hx
      · rw [hr] at hf; cases hf
      · exact ⟨x, hx, hf⟩
theorem run_cut {f : Nat → Bool} : ∀ (q : List Nat) (g : Nat), run f q ≤ g → run f (q.take g) = run f q
  | [], g, _ => by simp
  | r :: t, 0, h => by
    cases hr : f r with
    | false => rw [run_stop _ hr]; rfl
    | true => rw [run_cons _ hr] at h; omega
  | r :: t, g + 1, h => by
    cases hr : f r with
    | false => rw [List.take_succ_cons, run_stop _ hr, run_stop _ hr]
    | true =>
      rw [run_cons _ hr] at h
      rw [List.take_succ_cons, run_cons _ hr, run_cons _ hr, run_cut t g (by omega)]

theorem kindOf_pos (t : List Nat) : 1 ≤ kindOf t ∧ kindOf t ≤ 4 := by
  unfold kindOf; split <;> (try split) <;> (try split) <;> omega

/-- What a piece may be. -/
theorem piece_cases (r : Nat) (t : List Nat) :
    (blank r = true ∧ piece (r :: t) = (-1, run blank (r :: t))) ∨
    (blank r = false ∧ r = 47 ∧ t.headD 0 = 47 ∧ piece (r :: t) = (-1, run inLine (r :: t))) ∨
    (blank r = false ∧ letter r = true ∧ r ≠ 47 ∧ r ≠ 45 ∧ run inWord (r :: t) ≤ 16 ∧ piece (r :: t) = (kindOf ((r :: t).take (run inWord (r :: t))), run inWord (r :: t))) ∨
    (blank r = false ∧ letter r = true ∧ r ≠ 47 ∧ r ≠ 45 ∧ 16 < run inWord (r :: t) ∧ piece (r :: t) = (0, 0)) ∨
    (blank r = false ∧ letter r = false ∧ r = 45 ∧ t.headD 0 = 62 ∧ piece (r :: t) = (5, 2)) ∨
    (blank r = false ∧ letter r = false ∧ sign r = true ∧ ¬ (r = 45 ∧ t.headD 0 = 62) ∧ piece (r :: t) = ((r : Int), 1)) ∨
    (blank r = false ∧ letter r = false ∧ sign r = false ∧ ¬ (r = 47 ∧ t.headD 0 = 47) ∧ piece (r :: t) = (0, 0)) := by
  rw [piece]
  cases hb : blank r with
  | true => exact .inl ⟨rfl, if_pos rfl⟩
  | false =>
    rw [if_neg (by simp)]
    by_cases h1 : r = 47 ∧ t.headD 0 = 47
    · rw [if_pos h1]; exact .inr (.inl ⟨rfl, h1.1, h1.2, rfl⟩)
    · rw [if_neg h1]
      cases hl : letter r with
      | true =>
        have h47 : r ≠ 47 ∧ r ≠ 45 := by simp only [letter, decide_eq_true_eq] at hl; omega
        rw [if_pos rfl, word]
        by_cases h2 : 16 < run inWord (r :: t)
        · rw [if_pos h2]; exact .inr (.inr (.inr (.inl ⟨rfl, rfl, h47.1, h47.2, h2, rfl⟩)))
        · rw [if_neg h2]; exact .inr (.inr (.inl ⟨rfl, rfl, h47.1, h47.2, by omega, rfl⟩))
      | false =>
        rw [if_neg (by simp)]
        by_cases h2 : r = 45 ∧ t.headD 0 = 62
        · rw [if_pos h2]; exact .inr (.inr (.inr (.inr (.inl ⟨rfl, rfl, h2.1, h2.2, rfl⟩))))
        · rw [if_neg h2]
          cases hs : sign r with
          | true => rw [if_pos rfl]; exact .inr (.inr (.inr (.inr (.inr (.inl ⟨rfl, rfl, rfl, h2, rfl⟩)))))
          | false => rw [if_neg (by simp)]; exact .inr (.inr (.inr (.inr (.inr (.inr ⟨rfl, rfl, rfl, h1, rfl⟩)))))

theorem headD_ne {t : List Nat} {x : Nat} (h : t.headD 0 = x) (hx : x ≠ 0) : ∃ u, t = x :: u := by
  cases t with
  | nil => exact absurd h.symm hx
  | cons a u => exact ⟨u, by rw [List.headD_cons] at h; rw [h]⟩

theorem piece_size (q : List Nat) : (piece q).2 ≤ q.length ∧ ((piece q).1 ≠ 0 → 1 ≤ (piece q).2) ∧ -1 ≤ (piece q).1 ∧ ((piece q).1 = 0 → (piece q).2 = 0) := by
  cases q with
  | nil => simp [piece]
  | cons r t =>
    have hb := run_le blank (r :: t)
    have hl := run_le inLine (r :: t)
    have hw := run_le inWord (r :: t)
    rcases piece_cases r t with ⟨h, e⟩ | ⟨_, h, h2, e⟩ | ⟨_, h, _, _, _, e⟩ | ⟨_, _, _, _, _, e⟩ | ⟨_, _, _, h, e⟩ | ⟨_, _, h, _, e⟩ | ⟨_, _, _, _, e⟩ <;> rw [e] <;> simp only
    · refine ⟨hb, fun _ => ?_, by omega, by omega⟩
      rw [run_cons _ h]; omega
    · refine ⟨hl, fun _ => ?_, by omega, by omega⟩
      rw [run_cons _ (by subst h; rfl)]; omega
    · have := kindOf_pos ((r :: t).take (run inWord (r :: t)))
      refine ⟨hw, fun _ => ?_, by omega, by omega⟩
      rw [run_cons _ (letter_inWord h)]; omega
    · exact ⟨by omega, fun h => absurd rfl h, by omega, fun _ => trivial⟩
    · obtain ⟨u, rfl⟩ := headD_ne h (by omega)
      exact ⟨by simp, by omega, by omega, by omega⟩
    · have := sign_low h
      exact ⟨by simp, by omega, by omega, by omega⟩
    · exact ⟨by omega, fun h => absurd rfl h, by omega, fun _ => trivial⟩
theorem piece_le (q : List Nat) : (piece q).2 ≤ q.length := (piece_size q).1
theorem piece_pos {q : List Nat} (h : (piece q).1 ≠ 0) : 1 ≤ (piece q).2 := (piece_size q).2.1 h

/-! ### all tokens -/
structure Tok where
  kind : Int
  text : List Nat
  at' : Nat × Nat

/-- All tokens from a place on; the place behind them, or the first place where there is none; whether all could be told. -/
def lex (p : Nat × Nat) (q : List Nat) : List Tok × (Nat × Nat) × Bool :=
  if _h : q = [] then ([], p, true)
  else if (piece q).1 = 0 then ([], p, false)
  else
    let r := lex (behinds p (q.take (max (piece q).2 1))) (q.drop (max (piece q).2 1))
    if (piece q).1 = -1 then r else (⟨(piece q).1, q.take (piece q).2, p⟩ :: r.1, r.2)
termination_by q.length
decreasing_by
  rw [List.length_drop]
  have := List.length_pos_iff.2 _h
  omega

theorem lex_nil (p : Nat × Nat) : lex p [] = ([], p, true) := by rw [lex]; rfl
theorem lex_bad {p : Nat × Nat} {q : List Nat} (h : q ≠ []) (h0 : (piece q).1 = 0) : lex p q = ([], p, false) := by
  rw [lex, dif_neg h, if_pos h0]
theorem lex_gap {p : Nat × Nat} {q : List Nat} (h : q ≠ []) (h0 : (piece q).1 = -1) : lex p q = lex (behinds p (q.take (piece q).2)) (q.drop (piece q).2) := by
  have hm : max (piece q).2 1 = (piece q).2 := Nat.max_eq_left (piece_pos (by omega))
  conv => lhs; rw [lex]
  rw [dif_neg h, if_neg (by omega), if_pos h0, hm]
theorem lex_tok {p : Nat × Nat} {q : List Nat} (h : q ≠ []) (h0 : (piece q).1 ≠ 0) (h1 : (piece q).1 ≠ -1) :
    lex p q = (⟨(piece q).1, q.take (piece q).2, p⟩ :: (lex (behinds p (q.take (piece q).2)) (q.drop (piece q).2)).1, (lex (behinds p (q.take (piece q).2)) (q.drop (piece q).2)).2) := by
  have hm : max (piece q).2 1 = (piece q).2 := Nat.max_eq_left (piece_pos h0)
  conv => lhs; rw [lex]
  rw [dif_neg h, if_neg h0, if_neg h1, hm]

theorem piece_blank {r : Nat} {t : List Nat} (h : blank r = true) : piece (r :: t) = (-1, run blank (r :: t)) := by
  rw [piece, if_pos h]

/-- Blanks, one by one. -/
theorem lex_blank {p : Nat × Nat} {r : Nat} {t : List Nat} (h : blank r = true) : lex p (r :: t) = lex (behind p r) t := by
  have e := piece_blank (t := t) h
  rw [lex_gap (by simp) (by rw [e]), e]
  simp only
  rw [run_cons _ h, List.take_succ_cons, List.drop_succ_cons, behinds_cons]
  cases t with
  | nil => rfl
  | cons r2 t2 =>
    cases h2 : blank r2 with
    | false => rw [run_stop _ h2]; rfl
    | true =>
      have e2 := piece_blank (t := t2) h2
      rw [lex_gap (q := r2 :: t2) (by simp) (by rw [e2]), e2]

theorem lex_remark {p : Nat × Nat} {t : List Nat} (h : t.headD 0 = 47) : lex p (47 :: t) = lex (behinds p ((47 :: t).take (run inLine (47 :: t)))) ((47 :: t).drop (run inLine (47 :: t))) := by
  have e : piece (47 :: t) = (-1, run inLine (47 :: t)) := by rw [piece, if_neg (by decide), if_pos ⟨rfl, h⟩]
  rw [lex_gap (by simp) (by rw [e]), e]

/-! ### the whole -/
/-- The error's number, the place, the tokens. -/
def ans : Option (List Nat) → Int × (Nat × Nat) × List Tok
  | none => (4, (0, 0), [])
  | some q => if 3000 < q.length then (3, (0, 0), []) else if (lex (1, 1) q).2.2 then (0, (lex (1, 1) q).2.1, (lex (1, 1) q).1) else (10, (lex (1, 1) q).2.1, [])
theorem ans_long {q : List Nat} (h : 3000 < q.length) : ans (some q) = (3, (0, 0), []) := by rw [ans, if_pos h]
theorem ans_ok {q : List Nat} (h : ¬ 3000 < q.length) (h2 : (lex (1, 1) q).2.2 = true) : ans (some q) = (0, (lex (1, 1) q).2.1, (lex (1, 1) q).1) := by rw [ans, if_neg h, if_pos h2]
theorem ans_bad {q : List Nat} (h : ¬ 3000 < q.length) (h2 : (lex (1, 1) q).2.2 = false) : ans (some q) = (10, (lex (1, 1) q).2.1, []) := by
  rw [ans, if_neg h, if_neg (by rw [h2]; simp)]

theorem behind_le (p : Nat × Nat) (r : Nat) : (behind p r).1 ≤ p.1 + 1 ∧ (behind p r).2 ≤ p.2 + 1 := by
  unfold behind; split <;> constructor <;> simp only <;> omega
theorem behinds_le : ∀ (q : List Nat) (p : Nat × Nat), (behinds p q).1 ≤ p.1 + q.length ∧ (behinds p q).2 ≤ p.2 + q.length
  | [], _ => ⟨Nat.le_refl _, Nat.le_refl _⟩
  | r :: t, p => by
    have := behinds_le t (behind p r)
    have := behind_le p r
    rw [behinds_cons, List.length_cons]; omega

/-- Tokens' texts are of letters, digits, signs. -/
theorem piece_low {q : List Nat} (h0 : (piece q).1 ≠ -1) : ∀ r ∈ q.take (piece q).2, r < 128 := by
  cases q with
  | nil => simp
  | cons r t =>
    rcases piece_cases r t with ⟨_, e⟩ | ⟨_, _, _, e⟩ | ⟨_, _, _, _, _, e⟩ | ⟨_, _, _, _, _, e⟩ | ⟨_, _, h, h2, e⟩ | ⟨_, _, h, _, e⟩ | ⟨_, _, _, _, e⟩ <;> rw [e] at h0 ⊢ <;> simp only at h0 ⊢
    · exact absurd rfl h0
    · exact absurd rfl h0
    · exact fun x hx => inWord_low (run_all x hx)
    · simp
    · obtain ⟨u, rfl⟩ := headD_ne h2 (by omega)
      subst h; simp
    · have := sign_low h
      simp; omega
    · simp
end Go.Proofs.YtopncohhagebbaaDoor.Sg

namespace Go.Proofs.YtopncohhagebbaaDoor.Sg
open Go

/-- Kinds and texts. -/
def kt (l : List Tok) : List (Int × List Nat) := l.map fun t => (t.kind, t.text)
theorem kt_append (a b : List Tok) : kt (a ++ b) = kt a ++ kt b := List.map_append
theorem kt_cons (t : Tok) (l : List Tok) : kt (t :: l) = (t.kind, t.text) :: kt l := rfl
theorem kt_len (l : List Tok) : (kt l).length = l.length := List.length_map ..
theorem kt_nil {l : List Tok} (h : kt l = []) : l = [] := by
  have := congrArg List.length h
  rw [kt_len] at this
  exact List.eq_nil_of_length_eq_zero this

/-- What is lexed hangs on the place in the tokens' places alone. -/
theorem lex_place : ∀ (k : Nat) (q : List Nat) (p p' : Nat × Nat), q.length ≤ k → kt (lex p q).1 = kt (lex p' q).1 ∧ (lex p q).2.2 = (lex p' q).2.2
  | k, q, p, p', hk => by
    by_cases h : q = []
    · subst h; rw [lex_nil, lex_nil]; exact ⟨rfl, rfl⟩
    · by_cases h0 : (piece q).1 = 0
      · rw [lex_bad h h0, lex_bad h h0]; exact ⟨rfl, rfl⟩
      · have h1 := piece_pos h0
        have hl : (q.drop (piece q).2).length < q.length := by
          rw [List.length_drop]
          have := List.length_pos_iff.2 h
          omega
        obtain ⟨k, rfl⟩ : ∃ j, k = j + 1 := ⟨k - 1, by omega⟩
        have ih := lex_place k (q.drop (piece q).2) (behinds p (q.take (piece q).2)) (behinds p' (q.take (piece q).2)) (by omega)
        by_cases hg : (piece q).1 = -1
        · rw [lex_gap h hg, lex_gap h hg]; exact ih
        · rw [lex_tok h h0 hg, lex_tok h h0 hg, kt_cons, kt_cons, ih.1]
          exact ⟨rfl, ih.2⟩
/-- The place behind all. -/
theorem lex_end : ∀ (k : Nat) (q : List Nat) (p : Nat × Nat), q.length ≤ k → (lex p q).2.2 = true → (lex p q).2.1 = behinds p q
  | k, q, p, hk, hok => by
    by_cases h : q = []
    · subst h; rw [lex_nil]; rfl
    · by_cases h0 : (piece q).1 = 0
      · rw [lex_bad h h0] at hok; cases hok
      · have h1 := piece_pos h0
        have hl : (q.drop (piece q).2).length < q.length := by
          rw [List.length_drop]
          have := List.length_pos_iff.2 h
          omega
        obtain ⟨k, rfl⟩ : ∃ j, k = j + 1 := ⟨k - 1, by omega⟩
        have hj : behinds (behinds p (q.take (piece q).2)) (q.drop (piece q).2) = behinds p q := by
          rw [← behinds_append, List.take_append_drop]
        by_cases hg : (piece q).1 = -1
        · rw [lex_gap h hg] at hok ⊢
          rw [lex_end k _ _ (by omega) hok, hj]
        · rw [lex_tok h h0 hg] at hok ⊢
          exact (lex_end k _ _ (by omega) hok).trans hj

/-! ### a text behind a line's end -/
theorem piece_ext {r : Nat} {t : List Nat} (b : List Nat) (hb : blank r = false) (h10 : 10 ∈ t) : piece (r :: t ++ b) = piece (r :: t) := by
  have hh : (t ++ b).headD 0 = t.headD 0 := by
    cases t with
    | nil => simp at h10
    | cons x u => rfl
  have hl : run inLine (r :: t ++ b) = run inLine (r :: t) := run_append b ⟨10, by simp [h10], by decide⟩
  have hw : run inWord (r :: t ++ b) = run inWord (r :: t) := run_append b ⟨10, by simp [h10], by decide⟩
  have hwo : word (r :: t ++ b) = word (r :: t) := by
    rw [word, word, hw, List.take_append_of_le_length (run_le inWord (r :: t))]
  rw [List.cons_append] at hl hwo ⊢
  simp only [piece, hb, Bool.false_eq_true, if_false, hh, hl, hwo]
theorem piece_no10 {r : Nat} {t : List Nat} (hb : blank r = false) : ∀ x ∈ (r :: t).take (piece (r :: t)).2, x ≠ 10 := by
  rcases piece_cases r t with ⟨h, _⟩ | ⟨_, _, _, e⟩ | ⟨_, _, _, _, _, e⟩ | ⟨_, _, _, _, _, e⟩ | ⟨_, _, h, h2, e⟩ | ⟨_, _, h, _, e⟩ | ⟨_, _, _, _, e⟩
  · rw [hb] at h; cases h
  · rw [e]
    intro x hx
    have := run_all x hx
    simpa [inLine] using this
  · rw [e]
    intro x hx
    have := inWord_low (run_all x hx)
    have h2 := run_all x hx
    rintro rfl
    exact absurd h2 (by decide)
  · rw [e]; simp
  · obtain ⟨u, rfl⟩ := headD_ne h2 (by omega)
    subst h; rw [e]; simp
  · rw [e]
    have := sign_low h
    have hr : r ≠ 10 := by rintro rfl; exact absurd h (by decide)
    simp [hr]
  · rw [e]; simp

theorem lex_join : ∀ (k : Nat) (q b : List Nat) (p : Nat × Nat), q.length ≤ k → q.getLast? = some 10 → (lex p q).2.2 = true →
    lex p (q ++ b) = ((lex p q).1 ++ (lex (lex p q).2.1 b).1, (lex (lex p q).2.1 b).2)
  | k, q, b, p, hk, hlast, hok => by
    cases q with
    | nil => simp at hlast
    | cons r t =>
      obtain ⟨k, rfl⟩ : ∃ j, k = j + 1 := ⟨k - 1, by rw [List.length_cons] at hk; omega⟩
      rw [List.length_cons] at hk
      cases hb : blank r with
      | true =>
        rw [List.cons_append, lex_blank hb]
        rw [lex_blank hb] at hok ⊢
        by_cases ht : t = []
        · subst ht; rw [lex_nil]; simp
        · have hl2 : t.getLast? = some 10 := by
            cases t with
            | nil => exact absurd rfl ht
            | cons x u => rwa [List.getLast?_cons_cons] at hlast
          exact lex_join k t b _ (by omega) hl2 hok
      | false =>
        have hr10 : r ≠ 10 := by rintro rfl; exact absurd hb (by decide)
        have h10 : 10 ∈ t := by
          have := List.mem_of_getLast? hlast
          rcases List.mem_cons.1 this with h | h
          · exact absurd h.symm hr10
          · exact h
        have hne : r :: t ≠ [] := by simp
        have hne2 : r :: t ++ b ≠ [] := by simp
        have hp := piece_ext b hb h10
        have h0 : (piece (r :: t)).1 ≠ 0 := fun h0 => by rw [lex_bad hne h0] at hok; cases hok
        have h1 := piece_pos h0
        have hle := piece_le (r :: t)
        have hlt : (piece (r :: t)).2 < (r :: t).length := by
          apply Classical.byContradiction
          intro h
          have he : (r :: t).take (piece (r :: t)).2 = r :: t := List.take_of_length_le (by omega)
          have := piece_no10 hb 10 (by rw [he]; simp [h10])
          exact this rfl
        have hl2 : ((r :: t).drop (piece (r :: t)).2).getLast? = some 10 := by
          rw [List.getLast?_drop, if_neg (by omega)]; exact hlast
        have hlen : ((r :: t).drop (piece (r :: t)).2).length ≤ k := by
          rw [List.length_drop, List.length_cons]; omega
        have htk : (r :: t ++ b).take (piece (r :: t)).2 = (r :: t).take (piece (r :: t)).2 := List.take_append_of_le_length hle
        have hdr : (r :: t ++ b).drop (piece (r :: t)).2 = (r :: t).drop (piece (r :: t)).2 ++ b := List.drop_append_of_le_length hle
        by_cases hg : (piece (r :: t)).1 = -1
        · rw [lex_gap hne hg] at hok ⊢
          rw [lex_gap hne2 (by rw [hp]; exact hg), hp, htk, hdr]
          exact lex_join k _ b _ hlen hl2 hok
        · rw [lex_tok hne h0 hg] at hok ⊢
          rw [lex_tok hne2 (by rw [hp]; exact h0) (by rw [hp]; exact hg), hp, htk, hdr, lex_join k _ b _ hlen hl2 hok]
          rfl

/-- The four gaps. -/
def gaps : List (List Nat) := [[10], [32, 12288], [47, 47, 120, 10], [9, 13]]
theorem lex_gaps {g : List Nat} (h : g ∈ gaps) (b : List Nat) (p : Nat × Nat) : ∃ p', lex p (g ++ b) = lex p' b := by
  simp only [gaps, List.mem_cons, List.not_mem_nil, or_false] at h
  rcases h with rfl | rfl | rfl | rfl
  · exact ⟨_, lex_blank (by decide)⟩
  · exact ⟨_, (lex_blank (by decide)).trans (lex_blank (by decide))⟩
  · have hr : run inLine (47 :: 47 :: 120 :: 10 :: b) = 3 := by
      rw [run_cons _ (by decide), run_cons _ (by decide), run_cons _ (by decide), run_stop _ (by decide)]
    have h := lex_remark (p := p) (t := 47 :: 120 :: 10 :: b) rfl
    rw [hr] at h
    exact ⟨_, h.trans (lex_blank (r := 10) (t := b) (by decide))⟩
  · exact ⟨_, (lex_blank (by decide)).trans (lex_blank (by decide))⟩
/-- Two texts with a line's end and a gap between them. -/
theorem lex_three {q g t : List Nat} {p : Nat × Nat} (hlast : q.getLast? = some 10) (hg : g ∈ gaps) (h1 : (lex p q).2.2 = true) (h2 : (lex p t).2.2 = true) :
    kt (lex p (q ++ (g ++ t))).1 = kt (lex p q).1 ++ kt (lex p t).1 ∧ (lex p (q ++ (g ++ t))).2.2 = true := by
  rw [lex_join q.length q (g ++ t) p (Nat.le_refl _) hlast h1]
  obtain ⟨p', hp⟩ := lex_gaps hg t (lex p q).2.1
  rw [hp]
  have := lex_place t.length t p' p (Nat.le_refl _)
  exact ⟨by rw [kt_append, this.1], this.2.trans h2⟩

/-! ### the tokens' texts, with a blank behind each -/
def again (l : List Tok) : List Nat := l.flatMap fun t => t.text ++ [32]
theorem again_cons (t : Tok) (l : List Tok) : again (t :: l) = t.text ++ 32 :: again l := by simp [again]
theorem again_mem : ∀ {l : List Tok} {t : Tok}, t ∈ l → t.text.length + 1 ≤ (again l).length
  | [], _, h => by simp at h
  | u :: l, t, h => by
    rw [again_cons, List.length_append, List.length_cons]
    rcases List.mem_cons.1 h with rfl | h
    · omega
    · have := again_mem h
      omega
theorem again_take {l : List Tok} {i : Nat} (h : i < l.length) : again (l.take (i + 1)) = again (l.take i) ++ (l[i].text ++ [32]) := by
  rw [List.take_succ_eq_append_getElem h, again, List.flatMap_append, ← again]
  simp only [List.flatMap_cons, List.flatMap_nil, List.append_nil]
theorem again_part (l : List Tok) (i : Nat) : (again (l.take i)).length ≤ (again l).length := by
  have h : again l = again (l.take i) ++ again (l.drop i) := by
    rw [again, again, again, ← List.flatMap_append, List.take_append_drop]
  rw [h, List.length_append]; omega
theorem again_len : ∀ l : List Tok, l.length ≤ (again l).length
  | [] => Nat.zero_le _
  | t :: l => by
    rw [again_cons, List.length_append, List.length_cons, List.length_cons]
    have := again_len l
    omega
theorem kt_at {m l : List Tok} (h : kt m = kt l) {j : Nat} (h1 : j < m.length) (h2 : j < l.length) : m[j].kind = l[j].kind ∧ m[j].text = l[j].text := by
  have e : (kt m)[j]'(by rw [kt_len]; exact h1) = (kt l)[j]'(by rw [kt_len]; exact h2) := by simp only [h]
  simp only [kt, List.getElem_map] at e
  exact Prod.mk.inj e
theorem run_exact {f : Nat → Bool} : ∀ {a : List Nat} (y : Nat) (u : List Nat), (∀ x ∈ a, f x = true) → f y = false → run f (a ++ y :: u) = a.length
  | [], y, u, _, hy => run_stop _ hy
  | x :: a, y, u, h, hy => by
    rw [List.cons_append, run_cons _ (h x (by simp)), run_exact y u (fun z hz => h z (by simp [hz])) hy, List.length_cons]
/-- A token by itself. -/
def Tells (t : Tok) : Prop := 1 ≤ t.text.length ∧ t.kind ≠ 0 ∧ t.kind ≠ -1 ∧ (∀ r ∈ t.text, r < 128) ∧ ∀ u, piece (t.text ++ 32 :: u) = (t.kind, t.text.length)
theorem tells_piece {q : List Nat} (p : Nat × Nat) (h0 : (piece q).1 ≠ 0) (h1 : (piece q).1 ≠ -1) : Tells ⟨(piece q).1, q.take (piece q).2, p⟩ := by
  have hle := piece_le q
  have hlen : (q.take (piece q).2).length = (piece q).2 := by rw [List.length_take]; omega
  refine ⟨by show 1 ≤ (q.take (piece q).2).length; rw [hlen]; exact piece_pos h0, h0, h1, piece_low h1, fun u => ?_⟩
  show piece (q.take (piece q).2 ++ 32 :: u) = ((piece q).1, (q.take (piece q).2).length)
  rw [hlen]
  cases q with
  | nil => exact absurd rfl h0
  | cons r t =>
    rcases piece_cases r t with ⟨_, e⟩ | ⟨_, _, _, e⟩ | ⟨hb, hl, h47, h45, h16, e⟩ | ⟨_, _, _, _, _, e⟩ | ⟨hb, hl, h, h2, e⟩ | ⟨hb, hl, h, h2, e⟩ | ⟨_, _, _, _, e⟩
    · rw [e] at h1; exact absurd rfl h1
    · rw [e] at h1; exact absurd rfl h1
    · rw [e] at hlen ⊢
      have hr := run_exact (f := inWord) (a := (r :: t).take (run inWord (r :: t))) 32 u run_all (by decide)
      rw [hlen] at hr
      have hwo : word ((r :: t).take (run inWord (r :: t)) ++ 32 :: u) = (kindOf ((r :: t).take (run inWord (r :: t))), run inWord (r :: t)) := by
        rw [word, hr, if_neg (by simp only; omega), List.take_append_of_le_length (by rw [hlen]; exact Nat.le_refl _), List.take_take, Nat.min_self]
      have hcons : ∃ x, (r :: t).take (run inWord (r :: t)) = r :: x := by
        rw [run_cons _ (letter_inWord hl), List.take_succ_cons]; exact ⟨_, rfl⟩
      obtain ⟨x, hx⟩ := hcons
      have hpw : ∀ v, piece (r :: v) = word (r :: v) := fun v => by
        rw [piece, hb, if_neg (by simp), if_neg (fun h => h47 h.1), if_pos hl]
      refine Eq.trans ?_ hwo
      rw [hx, List.cons_append]
      exact hpw _
    · rw [e] at h0; exact absurd rfl h0
    · obtain ⟨v, rfl⟩ := headD_ne h2 (by omega)
      subst h; rw [e]; rfl
    · rw [e]
      have hs := sign_low h
      show piece (r :: 32 :: u) = _
      rw [piece, hb, if_neg (by simp), if_neg (fun hh => hs.2.2.2.1 hh.1), hl, if_neg (by simp), if_neg (by simp), h, if_pos rfl]
    · rw [e] at h0; exact absurd rfl h0
theorem lex_tells : ∀ (k : Nat) (q : List Nat) (p : Nat × Nat), q.length ≤ k → (∀ t ∈ (lex p q).1, Tells t) ∧ (again (lex p q).1).length ≤ 2 * q.length
  | k, q, p, hk => by
    by_cases h : q = []
    · subst h; rw [lex_nil]; simp [again]
    · by_cases h0 : (piece q).1 = 0
      · rw [lex_bad h h0]; simp [again]
      · have h1 := piece_pos h0
        have hle := piece_le q
        have hl : (q.drop (piece q).2).length = q.length - (piece q).2 := List.length_drop ..
        have hpos := List.length_pos_iff.2 h
        obtain ⟨k, rfl⟩ : ∃ j, k = j + 1 := ⟨k - 1, by omega⟩
        have ih := lex_tells k (q.drop (piece q).2) (behinds p (q.take (piece q).2)) (by omega)
        by_cases hg : (piece q).1 = -1
        · rw [lex_gap h hg]
          exact ⟨ih.1, by have := ih.2; omega⟩
        · rw [lex_tok h h0 hg]
          refine ⟨fun t ht => ?_, ?_⟩
          · rcases List.mem_cons.1 ht with rfl | ht
            · exact tells_piece p h0 hg
            · exact ih.1 t ht
          · rw [again_cons, List.length_append, List.length_cons, List.length_take]
            have := ih.2
            omega
theorem lex_again : ∀ (l : List Tok) (p : Nat × Nat), (∀ t ∈ l, Tells t) → kt (lex p (again l)).1 = kt l ∧ (lex p (again l)).2.2 = true
  | [], p, _ => by rw [show again [] = [] from rfl, lex_nil]; exact ⟨rfl, rfl⟩
  | t :: l, p, h => by
    obtain ⟨h1, h2, h3, h4, h5⟩ := h t (by simp)
    have hp := h5 (again l)
    have hne : t.text ++ 32 :: again l ≠ [] := by simp
    rw [again_cons, lex_tok hne (by rw [hp]; exact h2) (by rw [hp]; exact h3), hp]
    simp only
    rw [List.take_left' rfl, List.drop_left' rfl, lex_blank (by decide)]
    have ih := lex_again l (behind (behinds p t.text) 32) fun x hx => h x (by simp [hx])
    rw [kt_cons, kt_cons, ih.1]
    exact ⟨rfl, ih.2⟩
theorem again_low {l : List Tok} (h : ∀ t ∈ l, Tells t) : ∀ r ∈ again l, r < 128 := by
  intro r hr
  rw [again, List.mem_flatMap] at hr
  obtain ⟨t, ht, hr⟩ := hr
  rcases List.mem_append.1 hr with hr | hr
  · exact (h t ht).2.2.2.1 r hr
  · simp at hr; omega
end Go.Proofs.YtopncohhagebbaaDoor.Sg

namespace Go.Proofs.YtopncohhagebbaaDoor
open Go.RowKit
namespace Gr
open Tr (Nd none0)
open Sg (Tok kt)

/-- Bytes as text. -/
def txt (l : List Nat) : ByteArray := ⟨(l.map Nat.toUInt8).toArray⟩
/-- A token without its place. -/
abbrev K := Int × List Nat
/-- What is left to be read, and the error. -/
structure St where
  rest : List K
  err : Nat
def headK : List K → Int
  | [] => 0
  | t :: _ => t.1
def next (s : St) : Int := if s.err = 0 then headK s.rest else 0
def tl (s : St) : St := ⟨s.rest.tail, s.err⟩
def fail (s : St) (e : Nat) : St := if s.err = 0 then ⟨s.rest, e⟩ else s
def need (s : St) (k : Int) : St := if next s = k then tl s else fail s 11
def headT : List K → ByteArray
  | [] => none0
  | t :: _ => txt t.2
def word (s : St) : ByteArray × St := if next s = 1 then (headT s.rest, tl s) else (none0, fail s 11)
section
variable {α : Type}
def each (one : St → α × St) (k : Int) : Nat → St → List α × St
  | 0, s => ([], s)
  | f + 1, s => if next s = k then ((one (tl s)).1 :: (each one k f (one (tl s)).2).1, (each one k f (one (tl s)).2).2) else ([], s)
def eachs (one : St → α × St) (k : Int) (s : St) : List α × St := each one k s.rest.length s
def list (one : St → α × St) (k : Int) (s : St) : List α × St := ((one s).1 :: (eachs one k (one s).2).1, (eachs one k (one s).2).2)
end
def joined (k : Int) : List Nd → Nd
  | [n] => n
  | l => .mk k none0 none0 l
abbrev P := St → Nd × St
def atomOf (br : P) (s : St) : Nd × St :=
  if next s = 4 then (.mk 1 none0 none0 [], tl s)
  else if next s = 40 then br s
  else if next (word s).2 = 5 then (.mk 3 (word s).1 (word (tl (word s).2)).1 [], (word (tl (word s).2)).2)
  else (.mk 2 (word s).1 none0 [], (word s).2)
def lessOf (br : P) (s : St) : Nd × St :=
  if next (atomOf br s).2 = 45 then (.mk 6 none0 none0 [(atomOf br s).1, (atomOf br (tl (atomOf br s).2)).1], (atomOf br (tl (atomOf br s).2)).2) else atomOf br s
def meetOf (br : P) (s : St) : Nd × St := (joined 5 (list (lessOf br) 38 s).1, (list (lessOf br) 38 s).2)
def unionOf (br : P) (s : St) : Nd × St := (joined 4 (list (meetOf br) 124 s).1, (list (meetOf br) 124 s).2)
/-- Brackets, so many of which may still be opened. -/
def brk : Nat → P
  | 0, s => (.mk 0 none0 none0 [], fail s 12)
  | d + 1, s => ((unionOf (brk d) (need s 40)).1, need (unionOf (brk d) (need s 40)).2 41)
structure Al where
  ty : ByteArray
  rel : ByteArray
  wild : Bool
structure Rl where
  name : ByteArray
  allow : List Al
  expr : Nd
structure Ty where
  name : ByteArray
  rels : List Rl
def allow (s : St) : Al × St :=
  if next (word s).2 = 35 then (⟨(word s).1, (word (tl (word s).2)).1, false⟩, (word (tl (word s).2)).2)
  else if next (word s).2 = 58 then (⟨(word s).1, none0, true⟩, need (tl (word s).2) 42)
  else (⟨(word s).1, none0, false⟩, (word s).2)
def allows (s : St) : List Al × St :=
  if next s = 91 then ((list allow 44 (tl s)).1, need (list allow 44 (tl s)).2 93) else ([], s)
def union : P := unionOf (brk 8)
def rel (s : St) : Rl × St :=
  (⟨(word s).1, (allows (word s).2).1, (union (need (allows (word s).2).2 61)).1⟩, need (union (need (allows (word s).2).2 61)).2 59)
def typ (s : St) : Ty × St :=
  (⟨(word s).1, (eachs rel 3 (need (word s).2 123)).1⟩, need (eachs rel 3 (need (word s).2 123)).2 125)
def config (s : St) : List Ty × St := eachs typ 2 s

/-- What is wrong behind all that was read. -/
def fin (s : St) : St := if next s ≠ 0 then fail s 11 else s
/-- The place of what is left of tokens. -/
def place (l : List Tok) (s : St) (e : Nat × Nat) : Nat × Nat := match l.drop (l.length - s.rest.length) with
  | [] => e
  | t :: _ => t.at'
def done {α : Type} (z : α) (l : List Tok) (e : Nat × Nat) (r : α × St) : α × (Nat × Nat) × Nat :=
  if (fin r.2).err = 0 then (r.1, (0, 0), 0) else (z, place l (fin r.2) e, (fin r.2).err)
/-- The answer of a text: what is read, the place, the error. -/
def answer {α : Type} (z : α) (p : St → α × St) (a : Int × (Nat × Nat) × List Tok) : α × (Nat × Nat) × Int :=
  if a.1 = 0 then ((done z a.2.2 a.2.1 (p ⟨kt a.2.2, 0⟩)).1, (done z a.2.2 a.2.1 (p ⟨kt a.2.2, 0⟩)).2.1, ((done z a.2.2 a.2.1 (p ⟨kt a.2.2, 0⟩)).2.2 : Int)) else (z, a.2.1, a.1)
def zeroN : Nd := .mk 0 none0 none0 []
def exprA (s : ByteArray) : Nd × (Nat × Nat) × Int := answer zeroN union (Sg.ans (Gly.runes s.data.toList))
def parseA (s : ByteArray) : List Ty × (Nat × Nat) × Int := answer [] config (Sg.ans (Gly.runes s.data.toList))

/-! ### a part stops further on, or where it began -/
/-- What is left is an end of what was there; an error stays. -/
structure Fine {α : Type} (p : St → α × St) : Prop where
  suf : ∀ s, (p s).2.rest <:+ s.rest
  err : ∀ s, s.err ≠ 0 → (p s).2 = s
theorem next_bad {s : St} (h : s.err ≠ 0) : next s = 0 := if_neg h
theorem next_good {s : St} (h : next s ≠ 0) : s.err = 0 ∧ ∃ t r, s.rest = t :: r ∧ t.1 = next s := by
  by_cases he : s.err = 0
  · refine ⟨he, ?_⟩
    rw [next, if_pos he] at h ⊢
    cases hr : s.rest with
    | nil => rw [hr] at h; exact absurd rfl h
    | cons t r => exact ⟨t, r, rfl, rfl⟩
  · exact absurd (next_bad he) h
theorem fail_bad {s : St} (h : s.err ≠ 0) (e : Nat) : fail s e = s := if_neg h
theorem need_bad {s : St} (h : s.err ≠ 0) {k : Int} (hk : k ≠ 0) : need s k = s := by rw [need, next_bad h, if_neg (fun e => hk e.symm), fail_bad h]
theorem fail_rest (s : St) (e : Nat) : (fail s e).rest = s.rest := by rw [fail]; split <;> rfl
theorem need_suf (s : St) (k : Int) : (need s k).rest <:+ s.rest := by
  rw [need]; split
  · exact List.tail_suffix _
  · rw [fail_rest]; exact List.suffix_refl _
theorem word_fine : Fine word := ⟨fun s => by
  rw [word]; split
  · exact List.tail_suffix _
  · rw [fail_rest]; exact List.suffix_refl _, fun s h => by rw [word, next_bad h, if_neg (by decide)]; exact fail_bad h _⟩
theorem tl_suf (s : St) : (tl s).rest <:+ s.rest := List.tail_suffix _
theorem tl_len {s : St} (h : next s ≠ 0) : (tl s).rest.length + 1 = s.rest.length := by
  obtain ⟨-, t, r, hr, -⟩ := next_good h
  rw [tl, hr]; rfl
section
variable {α : Type} {one : St → α × St} {k : Int}
theorem each_suf (hf : Fine one) : ∀ (f : Nat) (s : St), (each one k f s).2.rest <:+ s.rest
  | 0, s => List.suffix_refl _
  | f + 1, s => by
    rw [each]
    split
    · exact (each_suf hf f _).trans ((hf.suf _).trans (tl_suf s))
    · exact List.suffix_refl _
theorem each_more (hf : Fine one) (hk : k ≠ 0) : ∀ (f g : Nat) (s : St), s.rest.length ≤ f → s.rest.length ≤ g → each one k f s = each one k g s
  | 0, 0, s, _, _ => rfl
  | 0, g + 1, s, h, _ => by
    have h0 : next s ≠ k := fun e => by
      have := tl_len (s := s) (by rw [e]; exact hk)
      omega
    rw [each, each, if_neg h0]
  | f + 1, 0, s, _, h => by
    have h0 : next s ≠ k := fun e => by
      have := tl_len (s := s) (by rw [e]; exact hk)
      omega
    rw [each, each, if_neg h0]
  | f + 1, g + 1, s, h1, h2 => by
    rw [each, each]
    by_cases hn : next s = k
    · have h3 := tl_len (s := s) (by rw [hn]; exact hk)
      have h4 := (hf.suf (tl s)).length_le
      rw [if_pos hn, if_pos hn, each_more hf hk f g _ (by omega) (by omega)]
    · rw [if_neg hn, if_neg hn]
theorem eachs_on (hf : Fine one) (hk : k ≠ 0) {s : St} (h : next s = k) : eachs one k s = ((one (tl s)).1 :: (eachs one k (one (tl s)).2).1, (eachs one k (one (tl s)).2).2) := by
  have h3 := tl_len (s := s) (by rw [h]; exact hk)
  have h4 := (hf.suf (tl s)).length_le
  rw [eachs, ← h3, each, if_pos h, each_more hf hk (tl s).rest.length (one (tl s)).2.rest.length _ (by omega) (Nat.le_refl _)]
  rfl
theorem eachs_off {s : St} (h : next s ≠ k) : eachs one k s = ([], s) := by
  rw [eachs]
  cases s.rest.length with
  | zero => rfl
  | succ n => rw [each, if_neg h]
theorem eachs_fine (hf : Fine one) (hk : k ≠ 0) : Fine (eachs one k) := ⟨fun s => each_suf hf _ s, fun s h => by rw [eachs_off (by rw [next_bad h]; exact fun e => hk e.symm)]⟩
theorem list_fine (hf : Fine one) (hk : k ≠ 0) : Fine (list one k) := ⟨fun s => ((eachs_fine hf hk).suf _).trans (hf.suf s), fun s h => by
  have h1 := hf.err s h
  rw [list, h1]
  exact (eachs_fine hf hk).err s h⟩
theorem each_len (hf : Fine one) (hk : k ≠ 0) : ∀ (f : Nat) (s : St), (each one k f s).1.length + (each one k f s).2.rest.length ≤ s.rest.length
  | 0, s => by rw [each]; simp
  | f + 1, s => by
    rw [each]
    by_cases hn : next s = k
    · have h3 := tl_len (s := s) (by rw [hn]; exact hk)
      have h4 := (hf.suf (tl s)).length_le
      have h5 := each_len hf hk f (one (tl s)).2
      rw [if_pos hn]
      simp only [List.length_cons]
      omega
    · rw [if_neg hn]; simp
end
theorem atom_fine {br : P} (h : Fine br) : Fine (atomOf br) := ⟨fun s => by
  rw [atomOf]
  split
  · exact tl_suf s
  · split
    · exact h.suf s
    · split
      · exact (word_fine.suf _).trans ((tl_suf _).trans (word_fine.suf s))
      · exact word_fine.suf s, fun s he => by
  have hw := word_fine.err s he
  rw [atomOf, next_bad he, if_neg (by decide), if_neg (by decide), hw, next_bad he, if_neg (by decide)]⟩
theorem less_fine {br : P} (h : Fine br) : Fine (lessOf br) := ⟨fun s => by
  rw [lessOf]
  split
  · exact ((atom_fine h).suf _).trans ((tl_suf _).trans ((atom_fine h).suf s))
  · exact (atom_fine h).suf s, fun s he => by
  have hw := (atom_fine h).err s he
  rw [lessOf, hw, next_bad he, if_neg (by decide), hw]⟩
theorem meet_fine {br : P} (h : Fine br) : Fine (meetOf br) := ⟨(list_fine (less_fine h) (by decide)).suf, (list_fine (less_fine h) (by decide)).err⟩
theorem union_fine {br : P} (h : Fine br) : Fine (unionOf br) := ⟨(list_fine (meet_fine h) (by decide)).suf, (list_fine (meet_fine h) (by decide)).err⟩
theorem need_fine {α : Type} {p : St → α × St} (hp : Fine p) {k : Int} (hk : k ≠ 0) {β : Type} (g : St → β) : Fine (fun s => (g s, need (p s).2 k)) := ⟨fun s => (need_suf _ _).trans (hp.suf s), fun s he => by
  show need (p s).2 k = s
  rw [hp.err s he, need_bad he hk]⟩
theorem after_fine {α : Type} {p : St → α × St} (hp : Fine p) {k : Int} (hk : k ≠ 0) : Fine (fun s => p (need s k)) := ⟨fun s => (hp.suf _).trans (need_suf s k), fun s he => by
  show (p (need s k)).2 = s
  rw [need_bad he hk, hp.err s he]⟩
theorem brk_fine : ∀ d, Fine (brk d)
  | 0 => ⟨fun s => by rw [brk]; simp only; rw [fail_rest]; exact List.suffix_refl _, fun s he => fail_bad he _⟩
  | d + 1 => need_fine (after_fine (union_fine (brk_fine d)) (k := 40) (by decide)) (k := 41) (by decide) _
theorem uni_fine : Fine union := union_fine (brk_fine 8)
theorem allow_fine : Fine allow := ⟨fun s => by
  rw [allow]
  split
  · exact (word_fine.suf _).trans ((tl_suf _).trans (word_fine.suf s))
  · split
    · exact (need_suf _ _).trans ((tl_suf _).trans (word_fine.suf s))
    · exact word_fine.suf s, fun s he => by
  have hw := word_fine.err s he
  rw [allow, hw, next_bad he, if_neg (by decide), if_neg (by decide)]⟩
theorem allows_fine : Fine allows := ⟨fun s => by
  rw [allows]
  split
  · exact (need_suf _ _).trans (((list_fine allow_fine (by decide)).suf _).trans (tl_suf s))
  · exact List.suffix_refl _, fun s he => by rw [allows, next_bad he, if_neg (by decide)]⟩
theorem rel_fine : Fine rel := ⟨fun s => by
  have h1 := word_fine.suf s
  have h2 := allows_fine.suf (word s).2
  have h3 := need_suf (allows (word s).2).2 61
  have h4 := uni_fine.suf (need (allows (word s).2).2 61)
  have h5 := need_suf (union (need (allows (word s).2).2 61)).2 59
  rw [rel]
  exact h5.trans (h4.trans (h3.trans (h2.trans h1))), fun s he => by
  rw [rel]
  simp only
  rw [word_fine.err s he, allows_fine.err s he, need_bad he (by decide), uni_fine.err s he, need_bad he (by decide)]⟩
theorem typ_fine : Fine typ := ⟨fun s => by
  have h1 := word_fine.suf s
  have h2 := need_suf (word s).2 123
  have h3 := (eachs_fine rel_fine (k := 3) (by decide)).suf (need (word s).2 123)
  have h4 := need_suf (eachs rel 3 (need (word s).2 123)).2 125
  rw [typ]
  exact h4.trans (h3.trans (h2.trans h1)), fun s he => by
  rw [typ]
  simp only
  rw [word_fine.err s he, need_bad he (by decide), (eachs_fine rel_fine (by decide)).err s he, need_bad he (by decide)]⟩
theorem config_fine : Fine config := eachs_fine typ_fine (by decide)
end Gr
end Go.Proofs.YtopncohhagebbaaDoor

namespace Go.Proofs.YtopncohhagebbaaDoor.Sg
open Go

/-- Tokens behind one another: those told, then those behind the first k runes of what is left. -/
def Inv (q u : List Nat) (p : Nat × Nat) (k : Nat) (acc : List Tok) : Prop :=
  (acc ++ (lex (behinds p (u.take k)) (u.drop k)).1, (lex (behinds p (u.take k)) (u.drop k)).2) = lex (1, 1) q
theorem inv_start (q : List Nat) : Inv q q (1, 1) 0 [] := by simp [Inv, behinds_nil]
theorem inv_next {q t : List Nat} {r k : Nat} {p : Nat × Nat} {acc : List Tok} (h : Inv q (r :: t) p (k + 1) acc) : Inv q t (behind p r) k acc := by
  rw [Inv, List.take_succ_cons, List.drop_succ_cons, behinds_cons] at h
  exact h
theorem inv_gap {q u : List Nat} {p : Nat × Nat} {acc : List Tok} (h : Inv q u p 0 acc) (hu : u ≠ []) (h1 : (piece u).1 = -1) : Inv q u p (piece u).2 acc := by
  rw [Inv, List.take_zero, List.drop_zero, behinds_nil, lex_gap hu h1] at h
  exact h
theorem inv_tok {q u : List Nat} {p : Nat × Nat} {acc : List Tok} (h : Inv q u p 0 acc) (hu : u ≠ []) (h0 : (piece u).1 ≠ 0) (h1 : (piece u).1 ≠ -1) :
    Inv q u p (piece u).2 (acc ++ [⟨(piece u).1, u.take (piece u).2, p⟩]) := by
  rw [Inv, List.take_zero, List.drop_zero, behinds_nil, lex_tok hu h0 h1] at h
  rw [Inv, List.append_assoc]
  exact h
theorem inv_end {q : List Nat} {p : Nat × Nat} {k : Nat} {acc : List Tok} (h : Inv q [] p k acc) : lex (1, 1) q = (acc, p, true) := by
  rw [Inv, List.take_nil, List.drop_nil, behinds_nil, lex_nil] at h
  rw [← h]; simp
theorem inv_bad {q u : List Nat} {p : Nat × Nat} {acc : List Tok} (h : Inv q u p 0 acc) (hu : u ≠ []) (h0 : (piece u).1 = 0) : lex (1, 1) q = (acc, p, false) := by
  rw [Inv, List.take_zero, List.drop_zero, behinds_nil, lex_bad hu h0] at h
  rw [← h]; simp
/-! ### the same, by places in the whole -/
theorem adv_blank {q t : List Nat} {a r : Nat} {acc : List Tok} (h : Inv q q (1, 1) a acc) (hd : q.drop a = r :: t) (hb : blank r = true) : Inv q q (1, 1) (a + 1) acc := by
  rw [Inv, hd, lex_blank hb] at h
  have h1 : q.drop (a + 1) = t := by rw [← List.drop_drop, hd]; rfl
  have h2 : behinds (1, 1) (q.take (a + 1)) = behind (behinds (1, 1) (q.take a)) r := by
    rw [← behinds_add, hd]; rfl
  rw [Inv, h1, h2]; exact h
theorem adv_gap {q : List Nat} {a : Nat} {acc : List Tok} (h : Inv q q (1, 1) a acc) (hu : q.drop a ≠ []) (h1 : (piece (q.drop a)).1 = -1) : Inv q q (1, 1) (a + (piece (q.drop a)).2) acc := by
  rw [Inv, lex_gap hu h1, behinds_add, List.drop_drop] at h
  exact h
theorem adv_tok {q : List Nat} {a : Nat} {acc : List Tok} (h : Inv q q (1, 1) a acc) (hu : q.drop a ≠ []) (h0 : (piece (q.drop a)).1 ≠ 0) (h1 : (piece (q.drop a)).1 ≠ -1) :
    Inv q q (1, 1) (a + (piece (q.drop a)).2) (acc ++ [⟨(piece (q.drop a)).1, (q.drop a).take (piece (q.drop a)).2, behinds (1, 1) (q.take a)⟩]) := by
  rw [Inv, lex_tok hu h0 h1, behinds_add, List.drop_drop] at h
  rw [Inv, List.append_assoc]
  exact h
theorem adv_bad {q : List Nat} {a : Nat} {acc : List Tok} (h : Inv q q (1, 1) a acc) (hu : q.drop a ≠ []) (h0 : (piece (q.drop a)).1 = 0) : lex (1, 1) q = (acc, behinds (1, 1) (q.take a), false) := by
  rw [Inv, lex_bad hu h0] at h
  rw [← h]; simp
theorem adv_end {q : List Nat} {acc : List Tok} (h : Inv q q (1, 1) q.length acc) : lex (1, 1) q = (acc, behinds (1, 1) q, true) := by
  rw [Inv, List.drop_length, List.take_length, lex_nil] at h
  rw [← h]; simp
/-! ### the document's words -/
def goes (q : List Nat) (a j r : Nat) : Bool := if a + j < q.length then (if j = 0 then letter r else inWord (q.getD (a + j) 0)) else false
def Wd (q : List Nat) (a j r : Nat) : Prop := j = 0 ∨ (letter r = true ∧ 1 ≤ j ∧ j + run inWord (q.drop (a + j)) = run inWord (q.drop a))
theorem goes_on {q t : List Nat} {a j r : Nat} (hd : q.drop a = r :: t) (h : Wd q a j r) (hg : goes q a j r = true) : Wd q a (j + 1) r := by
  unfold goes at hg
  split at hg
  · rename_i hlt
    rcases h with rfl | ⟨h1, h2, h3⟩
    · rw [if_pos rfl] at hg
      refine .inr ⟨hg, by omega, ?_⟩
      rw [show a + (0 + 1) = a + 1 by omega, ← List.drop_drop, hd, run_cons _ (letter_inWord hg)]
      simp; omega
    · rw [if_neg (by omega)] at hg
      refine .inr ⟨h1, by omega, ?_⟩
      rw [List.drop_eq_getElem_cons hlt, run_cons _ (by simpa [List.getD, hlt] using hg)] at h3
      rw [show a + (j + 1) = a + j + 1 by omega]; omega
  · cases hg
theorem goes_stop {q : List Nat} {a j r : Nat} (ha : a < q.length) (h : Wd q a j r) (hg : goes q a j r = false) : (letter r = false ∧ j = 0) ∨ (letter r = true ∧ 1 ≤ j ∧ j = run inWord (q.drop a)) := by
  unfold goes at hg
  rcases h with rfl | ⟨h1, h2, h3⟩
  · rw [if_pos (by omega), if_pos rfl] at hg
    exact .inl ⟨hg, rfl⟩
  · refine .inr ⟨h1, h2, ?_⟩
    split at hg
    · rename_i hlt
      rw [if_neg (by omega)] at hg
      rw [List.drop_eq_getElem_cons hlt, run_stop _ (by simpa [List.getD, hlt] using hg)] at h3
      omega
    · rw [List.drop_eq_nil_of_le (by omega), run_nil] at h3
      omega
end Go.Proofs.YtopncohhagebbaaDoor.Sg

namespace Go.Proofs.YtopncohhagebbaaDoor
open Go.RowKit
namespace Gr
open Tr (Nd none0 good goods size sizes)
open Sg (Tok kt)

/-- All words are words. -/
def Words (l : List K) : Prop := ∀ t ∈ l, t.1 = 1 → Tr.word (txt t.2) = true
theorem Words.suf {l m : List K} (h : Words l) (hs : m <:+ l) : Words m := fun t ht => h t (hs.subset ht)
/-- What a part reads where nothing is wrong. -/
structure Reads {α : Type} (G : α → Prop) (sz : α → Nat) (p : St → α × St) : Prop where
  fine : Fine p
  good : ∀ s, Words s.rest → (p s).2.err = 0 → s.err = 0 ∧ G (p s).1 ∧ sz (p s).1 + (p s).2.rest.length ≤ s.rest.length
theorem Fine.err0 {α : Type} {p : St → α × St} (h : Fine p) {s : St} (he : (p s).2.err = 0) : s.err = 0 := by
  apply Classical.byContradiction
  intro hn
  rw [h.err s hn] at he
  exact hn he
theorem fail_err {s : St} {e : Nat} (he : e ≠ 0) : (fail s e).err ≠ 0 := by
  rw [fail]; split
  · exact he
  · assumption
theorem need_good {s : St} {k : Int} (hk : k ≠ 0) (h : (need s k).err = 0) : s.err = 0 ∧ next s = k ∧ need s k = tl s ∧ (tl s).rest.length + 1 = s.rest.length := by
  rw [need] at h ⊢
  by_cases hn : next s = k
  · rw [if_pos hn] at h ⊢
    exact ⟨h, hn, rfl, tl_len (by rw [hn]; exact hk)⟩
  · rw [if_neg hn] at h
    exact absurd h (fail_err (by decide))
theorem word_reads : Reads (fun a => Tr.word a = true) (fun _ => 1) word := ⟨word_fine, fun s hw h => by
  rw [word] at h ⊢
  by_cases hn : next s = 1
  · rw [if_pos hn] at h ⊢
    obtain ⟨-, t, r, hr, ht⟩ := next_good (s := s) (by rw [hn]; decide)
    have hl := tl_len (s := s) (by rw [hn]; decide)
    refine ⟨h, ?_, by simp only; omega⟩
    rw [hr]
    exact hw t (by rw [hr]; simp) (by rw [ht, hn])
  · rw [if_neg hn] at h
    exact absurd h (fail_err (by decide))⟩
section
variable {α : Type} {G : α → Prop} {sz : α → Nat} {one : St → α × St} {k : Int}
def tot (sz : α → Nat) : List α → Nat
  | [] => 0
  | a :: l => 1 + sz a + tot sz l
theorem each_reads (h : Reads G sz one) (hk : k ≠ 0) : ∀ (f : Nat) (s : St), Words s.rest → (each one k f s).2.err = 0 → s.err = 0 ∧ (∀ a ∈ (each one k f s).1, G a) ∧ tot sz (each one k f s).1 + (each one k f s).2.rest.length ≤ s.rest.length
  | 0, s, _, he => ⟨he, by simp [each], by rw [each]; simp [tot]⟩
  | f + 1, s, hw, he => by
    rw [each] at he ⊢
    by_cases hn : next s = k
    · rw [if_pos hn] at he ⊢
      have hl := tl_len (s := s) (by rw [hn]; exact hk)
      have hw1 := hw.suf (tl_suf s)
      obtain ⟨h1, h2, h3⟩ := each_reads h hk f (one (tl s)).2 (hw1.suf (h.fine.suf _)) he
      obtain ⟨h4, h5, h6⟩ := h.good (tl s) hw1 h1
      refine ⟨h4, fun a ha => ?_, ?_⟩
      · rcases List.mem_cons.1 ha with rfl | ha
        · exact h5
        · exact h2 a ha
      · simp only [tot]
        omega
    · rw [if_neg hn] at he ⊢
      exact ⟨he, by simp, by simp [tot]⟩
theorem eachs_reads (h : Reads G sz one) (hk : k ≠ 0) : Reads (fun l => ∀ a ∈ l, G a) (tot sz) (eachs one k) := ⟨eachs_fine h.fine hk, fun s hw he => each_reads h hk _ s hw he⟩
theorem list_reads (h : Reads G sz one) (hk : k ≠ 0) : Reads (fun l => l ≠ [] ∧ ∀ a ∈ l, G a) (fun l => tot sz l - 1) (list one k) := ⟨list_fine h.fine hk, fun s hw he => by
  rw [list] at he ⊢
  obtain ⟨h1, h2, h3⟩ := (eachs_reads h hk).good (one s).2 (hw.suf (h.fine.suf _)) he
  obtain ⟨h4, h5, h6⟩ := h.good s hw h1
  refine ⟨h4, ⟨by simp, fun a ha => ?_⟩, by simp only [tot]; omega⟩
  rcases List.mem_cons.1 ha with rfl | ha
  · exact h5
  · exact h2 a ha⟩
end
abbrev NG (n : Nd) : Prop := good n = true
theorem tot_sizes : ∀ l : List Nd, tot size l = l.length + sizes l
  | [] => rfl
  | n :: l => by rw [tot, tot_sizes l, sizes, List.length_cons]; omega
theorem goods_all : ∀ {l : List Nd}, (∀ a ∈ l, good a = true) → goods l = true
  | [], _ => by rw [goods]
  | n :: l, h => by rw [goods, h n (by simp), goods_all fun a ha => h a (by simp [ha])]; rfl
theorem joined_good {k : Int} (hk : k = 4 ∨ k = 5) {l : List Nd} (hl : l ≠ []) (h : ∀ a ∈ l, good a = true) : good (joined k l) = true := by
  match l with
  | [] => exact absurd rfl hl
  | [n] => exact h n (by simp)
  | n :: m :: r =>
    rw [joined, good, goods_all h]
    · rcases hk with rfl | rfl <;> simp [Tr.fits, Tr.nil, none0]
    · rintro _ ⟨⟩
theorem joined_size {k : Int} {l : List Nd} (hl : l ≠ []) : size (joined k l) ≤ tot size l - 1 := by
  rw [tot_sizes]
  match l with
  | [] => exact absurd rfl hl
  | [n] => rw [joined]; simp [sizes]
  | n :: m :: r =>
    rw [joined, size]
    · simp only [List.length_cons]; omega
    · rintro _ ⟨⟩
abbrev Nice (p : P) : Prop := Reads NG size p
theorem atom_reads {br : P} (h : Nice br) : Nice (atomOf br) := ⟨atom_fine h.fine, fun s hw he => by
  rw [atomOf] at he ⊢
  by_cases h4 : next s = 4
  · rw [if_pos h4] at he ⊢
    have hl := tl_len (s := s) (by rw [h4]; decide)
    exact ⟨he, by show good _ = true; simp [good, goods, Tr.fits, Tr.nil, none0], by simp [size, sizes]; omega⟩
  rw [if_neg h4] at he ⊢
  by_cases h40 : next s = 40
  · rw [if_pos h40] at he ⊢
    exact h.good s hw he
  rw [if_neg h40] at he ⊢
  by_cases h5 : next (word s).2 = 5
  · rw [if_pos h5] at he ⊢
    have hl := tl_len (s := (word s).2) (by rw [h5]; decide)
    have hw1 := hw.suf (word_fine.suf s)
    obtain ⟨h1, h2, h3⟩ := word_reads.good (tl (word s).2) (hw1.suf (tl_suf _)) he
    obtain ⟨h6, h7, h8⟩ := word_reads.good s hw h1
    refine ⟨h6, ?_, by simp [size, sizes] at *; omega⟩
    show good _ = true
    simp [good, goods, Tr.fits, h2, h7]
  · rw [if_neg h5] at he ⊢
    obtain ⟨h6, h7, h8⟩ := word_reads.good s hw he
    refine ⟨h6, ?_, by simp [size, sizes] at *; omega⟩
    show good _ = true
    simp [good, goods, Tr.fits, h7, Tr.nil, none0]⟩
theorem less_reads {br : P} (h : Nice br) : Nice (lessOf br) := ⟨less_fine h.fine, fun s hw he => by
  have ha := atom_reads h
  rw [lessOf] at he ⊢
  by_cases hn : next (atomOf br s).2 = 45
  · rw [if_pos hn] at he ⊢
    have hl := tl_len (s := (atomOf br s).2) (by rw [hn]; decide)
    have hw1 := hw.suf (ha.fine.suf s)
    obtain ⟨h1, h2, h3⟩ := ha.good _ (hw1.suf (tl_suf _)) he
    obtain ⟨h4, h5, h6⟩ := ha.good s hw h1
    refine ⟨h4, ?_, by simp [size, sizes] at *; omega⟩
    show good _ = true
    have h2' : good _ = true := h2
    have h5' : good _ = true := h5
    simp [good, goods, Tr.fits, h2', h5', Tr.nil, none0]
  · rw [if_neg hn] at he ⊢
    exact ha.good s hw he⟩
theorem meet_reads {br : P} (h : Nice br) : Nice (meetOf br) := ⟨meet_fine h.fine, fun s hw he => by
  obtain ⟨h1, ⟨h2, h3⟩, h4⟩ := (list_reads (less_reads h) (k := 38) (by decide)).good s hw he
  have := joined_size (k := 5) h2
  exact ⟨h1, joined_good (.inr rfl) h2 h3, by rw [meetOf]; simp only; omega⟩⟩
theorem union_reads {br : P} (h : Nice br) : Nice (unionOf br) := ⟨union_fine h.fine, fun s hw he => by
  obtain ⟨h1, ⟨h2, h3⟩, h4⟩ := (list_reads (meet_reads h) (k := 124) (by decide)).good s hw he
  have := joined_size (k := 4) h2
  exact ⟨h1, joined_good (.inl rfl) h2 h3, by rw [unionOf]; simp only; omega⟩⟩
theorem brk_reads : ∀ d, Nice (brk d)
  | 0 => ⟨brk_fine 0, fun s _ he => absurd he (fail_err (by decide))⟩
  | d + 1 => ⟨brk_fine (d + 1), fun s hw he => by
    rw [brk] at he ⊢
    obtain ⟨h1, h2, h3, h4⟩ := need_good (by decide) he
    obtain ⟨h5, h6, h7⟩ := (union_reads (brk_reads d)).good _ (hw.suf (need_suf s 40)) h1
    obtain ⟨h8, h9, h10, h11⟩ := need_good (by decide) h5
    rw [h3]
    rw [h10] at h7 h4 h6 ⊢
    exact ⟨h8, h6, by simp only; omega⟩⟩
theorem uni_reads : Nice union := union_reads (brk_reads 8)
def AG (a : Al) : Prop := Tr.word a.ty = true ∧ (a.rel = none0 ∨ a.wild = false ∧ Tr.word a.rel = true)
theorem allow_reads : Reads AG (fun _ => 0) allow := ⟨allow_fine, fun s hw he => by
  rw [allow] at he ⊢
  by_cases h35 : next (word s).2 = 35
  · rw [if_pos h35] at he ⊢
    have hl := tl_len (s := (word s).2) (by rw [h35]; decide)
    have hw1 := hw.suf (word_fine.suf s)
    obtain ⟨h1, h2, h3⟩ := word_reads.good (tl (word s).2) (hw1.suf (tl_suf _)) he
    obtain ⟨h6, h7, h8⟩ := word_reads.good s hw h1
    exact ⟨h6, ⟨h7, .inr ⟨rfl, h2⟩⟩, by simp only; omega⟩
  rw [if_neg h35] at he ⊢
  by_cases h58 : next (word s).2 = 58
  · rw [if_pos h58] at he ⊢
    obtain ⟨h1, h2, h3, h4⟩ := need_good (by decide) he
    have hl := tl_len (s := (word s).2) (by rw [h58]; decide)
    obtain ⟨h6, h7, h8⟩ := word_reads.good s hw h1
    refine ⟨h6, ⟨h7, .inl rfl⟩, ?_⟩
    rw [h3]
    simp only; omega
  · rw [if_neg h58] at he ⊢
    obtain ⟨h6, h7, h8⟩ := word_reads.good s hw he
    exact ⟨h6, ⟨h7, .inl rfl⟩, by simp only; omega⟩⟩
theorem allows_reads : Reads (fun l => ∀ a ∈ l, AG a) (fun _ => 0) allows := ⟨allows_fine, fun s hw he => by
  rw [allows] at he ⊢
  by_cases h91 : next s = 91
  · rw [if_pos h91] at he ⊢
    obtain ⟨h1, h2, h3, h4⟩ := need_good (by decide) he
    have hl := tl_len (s := s) (by rw [h91]; decide)
    obtain ⟨h5, ⟨-, h6⟩, h7⟩ := (list_reads allow_reads (k := 44) (by decide)).good _ (hw.suf (tl_suf s)) h1
    refine ⟨h5, h6, ?_⟩
    rw [h3]
    simp only; omega
  · rw [if_neg h91] at he ⊢
    exact ⟨he, by simp, by simp⟩⟩
def RG (r : Rl) : Prop := Tr.word r.name = true ∧ good r.expr = true ∧ ∀ a ∈ r.allow, AG a
theorem rel_reads : Reads RG (fun r => size r.expr) rel := ⟨rel_fine, fun s hw he => by
  have e : rel s = (⟨(word s).1, (allows (word s).2).1, (union (need (allows (word s).2).2 61)).1⟩, need (union (need (allows (word s).2).2 61)).2 59) := rfl
  have w1 := hw.suf (word_fine.suf s)
  have w2 := w1.suf (allows_fine.suf (word s).2)
  have w3 := w2.suf (need_suf (allows (word s).2).2 61)
  have r1 := fun h => word_reads.good s hw h
  have r2 := fun h => allows_reads.good (word s).2 w1 h
  have r3 := fun h => need_good (s := (allows (word s).2).2) (k := 61) (by decide) h
  have r4 := fun h => uni_reads.good (need (allows (word s).2).2 61) w3 h
  have r5 := fun h => need_good (s := (union (need (allows (word s).2).2 61)).2) (k := 59) (by decide) h
  rw [e] at he ⊢
  clear e w1 w2 w3 hw
  generalize word s = A at *
  generalize allows A.2 = B at *
  generalize hC : need B.2 61 = C at *
  generalize union C = D at *
  generalize hE : need D.2 59 = E at *
  obtain ⟨h1, h2, h3, h4⟩ := r5 he
  obtain ⟨h5, h6, h7⟩ := r4 h1
  obtain ⟨h8, h9, h10, h11⟩ := r3 h5
  obtain ⟨h12, h13, h14⟩ := r2 h8
  obtain ⟨h15, h16, h17⟩ := r1 h12
  rw [← h10] at h11
  rw [← h3] at h4
  exact ⟨h15, ⟨h16, h6, h13⟩, by simp only; omega⟩⟩
def TG (t : Ty) : Prop := Tr.word t.name = true ∧ ∀ r ∈ t.rels, RG r
theorem typ_reads : Reads TG (fun t => tot (fun r => size r.expr) t.rels) typ := ⟨typ_fine, fun s hw he => by
  have e : typ s = (⟨(word s).1, (eachs rel 3 (need (word s).2 123)).1⟩, need (eachs rel 3 (need (word s).2 123)).2 125) := rfl
  have w1 := hw.suf (word_fine.suf s)
  have w2 := w1.suf (need_suf (word s).2 123)
  have r1 := fun h => word_reads.good s hw h
  have r2 := fun h => need_good (s := (word s).2) (k := 123) (by decide) h
  have r3 := fun h => (eachs_reads rel_reads (k := 3) (by decide)).good (need (word s).2 123) w2 h
  have r4 := fun h => need_good (s := (eachs rel 3 (need (word s).2 123)).2) (k := 125) (by decide) h
  rw [e] at he ⊢
  clear e w1 w2 hw
  generalize word s = A at *
  generalize hB : need A.2 123 = B at *
  generalize eachs rel 3 B = C at *
  generalize hD : need C.2 125 = D at *
  obtain ⟨h1, h2, h3, h4⟩ := r4 he
  obtain ⟨h5, h6, h7⟩ := r3 h1
  obtain ⟨h8, h9, h10, h11⟩ := r2 h5
  obtain ⟨h15, h16, h17⟩ := r1 h8
  rw [← h10] at h11
  rw [← h3] at h4
  exact ⟨h15, ⟨h16, h6⟩, by simp only; omega⟩⟩
theorem config_reads : Reads (fun l => ∀ t ∈ l, TG t) (tot fun t => tot (fun r => size r.expr) t.rels) config := eachs_reads typ_reads (by decide)
end Gr
end Go.Proofs.YtopncohhagebbaaDoor

namespace Go.Proofs.YtopncohhagebbaaDoor
open Go.RowKit
namespace Gr
open Tr (Nd none0)
open Sg (Tok kt)

/-- A part's errors. -/
def Errs {α : Type} (p : St → α × St) : Prop := ∀ s, (p s).2.err = s.err ∨ (p s).2.err = 11 ∨ (p s).2.err = 12
section
variable {α β : Type}
theorem err_of {s : St} {a : Nat} (h : s.err = a ∨ s.err = 11 ∨ s.err = 12) {n : Nat} (hn : n = s.err ∨ n = 11 ∨ n = 12) : n = a ∨ n = 11 ∨ n = 12 := by omega
theorem fail_err' (s : St) (e : Nat) (he : e = 11 ∨ e = 12) : (fail s e).err = s.err ∨ (fail s e).err = 11 ∨ (fail s e).err = 12 := by
  rw [fail]; split
  · exact .inr he
  · exact .inl rfl
theorem need_err (s : St) (k : Int) : (need s k).err = s.err ∨ (need s k).err = 11 ∨ (need s k).err = 12 := by
  rw [need]; split
  · exact .inl rfl
  · exact fail_err' s 11 (.inl rfl)
theorem word_errs : Errs word := fun s => by
  rw [word]; split
  · exact .inl rfl
  · exact fail_err' s 11 (.inl rfl)
theorem Errs.tl {p : St → α × St} (h : Errs p) (s : St) : (p (Gr.tl s)).2.err = s.err ∨ (p (Gr.tl s)).2.err = 11 ∨ (p (Gr.tl s)).2.err = 12 := h (Gr.tl s)
theorem each_errs {one : St → α × St} (h : Errs one) (k : Int) : ∀ f, Errs (each one k f)
  | 0, s => .inl rfl
  | f + 1, s => by
    rw [each]; split
    · exact err_of (h.tl s) (each_errs h k f _)
    · exact .inl rfl
theorem eachs_errs {one : St → α × St} (h : Errs one) (k : Int) : Errs (eachs one k) := fun s => each_errs h k _ s
theorem list_errs {one : St → α × St} (h : Errs one) (k : Int) : Errs (list one k) := fun s => err_of (h s) (eachs_errs h k _)
end
theorem atom_errs {br : P} (h : Errs br) : Errs (atomOf br) := fun s => by
  rw [atomOf]; split
  · exact .inl rfl
  · split
    · exact h s
    · split
      · exact err_of (word_errs s) (word_errs.tl _)
      · exact word_errs s
theorem less_errs {br : P} (h : Errs br) : Errs (lessOf br) := fun s => by
  rw [lessOf]; split
  · exact err_of (atom_errs h s) ((atom_errs h).tl _)
  · exact atom_errs h s
theorem meet_errs {br : P} (h : Errs br) : Errs (meetOf br) := fun s => list_errs (less_errs h) 38 s
theorem union_errs {br : P} (h : Errs br) : Errs (unionOf br) := fun s => list_errs (meet_errs h) 124 s
theorem brk_errs : ∀ d, Errs (brk d)
  | 0 => fun s => fail_err' s 12 (.inr rfl)
  | d + 1 => fun s => by
    rw [brk]
    exact err_of (err_of (need_err s 40) (union_errs (brk_errs d) _)) (need_err _ 41)
theorem uni_errs : Errs union := union_errs (brk_errs 8)
theorem allow_errs : Errs allow := fun s => by
  rw [allow]; split
  · exact err_of (word_errs s) (word_errs.tl _)
  · split
    · exact err_of (word_errs s) (need_err (Gr.tl (word s).2) 42)
    · exact word_errs s
theorem allows_errs : Errs allows := fun s => by
  rw [allows]; split
  · exact err_of ((list_errs allow_errs 44).tl s) (need_err _ 93)
  · exact .inl rfl
theorem rel_errs : Errs rel := fun s => by
  have h1 := word_errs s
  have h2 := allows_errs (word s).2
  have h3 := need_err (allows (word s).2).2 61
  have h4 := uni_errs (need (allows (word s).2).2 61)
  have h5 := need_err (union (need (allows (word s).2).2 61)).2 59
  rw [rel]
  simp only
  exact err_of (err_of (err_of (err_of h1 h2) h3) h4) h5
theorem typ_errs : Errs typ := fun s => by
  have h1 := word_errs s
  have h2 := need_err (word s).2 123
  have h3 := eachs_errs rel_errs 3 (need (word s).2 123)
  have h4 := need_err (eachs rel 3 (need (word s).2 123)).2 125
  rw [typ]
  simp only
  exact err_of (err_of (err_of h1 h2) h3) h4
theorem config_errs : Errs config := eachs_errs typ_errs 2
/-- What is wrong behind all. -/
theorem fin_errs {α : Type} {p : St → α × St} (h : Errs p) (l : List K) : (fin (p ⟨l, 0⟩).2).err = 0 ∨ (fin (p ⟨l, 0⟩).2).err = 11 ∨ (fin (p ⟨l, 0⟩).2).err = 12 := by
  have h1 := h ⟨l, 0⟩
  rw [fin]; split
  · exact err_of h1 (fail_err' _ 11 (.inl rfl))
  · exact h1

/-! ### tokens -/
theorem ans_toks {o : Option (List Nat)} (h : (Sg.ans o).1 = 0) : ∃ q : List Nat, o = some q ∧ q.length ≤ 3000 ∧ (Sg.lex (1, 1) q).2.2 = true ∧ Sg.ans o = (0, (Sg.lex (1, 1) q).2.1, (Sg.lex (1, 1) q).1) ∧
    (Sg.lex (1, 1) q).1.length ≤ 6000 ∧ (∀ t ∈ (Sg.lex (1, 1) q).1, t.text.length ≤ 6000 ∧ t.kind ≠ 0) := by
  cases o with
  | none => exact absurd h (by decide)
  | some q =>
    by_cases hl : 3000 < q.length
    · rw [Sg.ans_long hl] at h; exact absurd h (by decide)
    · cases h2 : (Sg.lex (1, 1) q).2.2 with
      | true =>
        obtain ⟨h3, h4⟩ := Sg.lex_tells q.length q (1, 1) (Nat.le_refl _)
        refine ⟨q, rfl, by omega, h2, Sg.ans_ok hl h2, ?_, fun t ht => ⟨?_, (h3 t ht).2.1⟩⟩
        · have := Sg.again_len (Sg.lex (1, 1) q).1
          omega
        · have := Sg.again_mem ht
          omega
      | false => rw [Sg.ans_bad hl h2] at h; simp at h
end Gr
end Go.Proofs.YtopncohhagebbaaDoor

namespace Go.Proofs.YtopncohhagebbaaDoor
open Go.RowKit
namespace Gr
open Tr (Nd none0)
open Sg (Tok kt piece behinds lex)

/-- lex, by so many steps. -/
def lexF : Nat → Nat × Nat → List Nat → List Tok × (Nat × Nat) × Bool
  | 0, p, _ => ([], p, true)
  | k + 1, p, q =>
    if q = [] then ([], p, true)
    else if (piece q).1 = 0 then ([], p, false)
    else if (piece q).1 = -1 then lexF k (behinds p (q.take (max (piece q).2 1))) (q.drop (max (piece q).2 1))
    else (⟨(piece q).1, q.take (piece q).2, p⟩ :: (lexF k (behinds p (q.take (max (piece q).2 1))) (q.drop (max (piece q).2 1))).1, (lexF k (behinds p (q.take (max (piece q).2 1))) (q.drop (max (piece q).2 1))).2)
theorem lexF_eq : ∀ (k : Nat) (p : Nat × Nat) (q : List Nat), q.length ≤ k → lex p q = lexF k p q
  | 0, p, q, h => by
    obtain rfl := List.eq_nil_of_length_eq_zero (Nat.le_zero.1 h)
    rw [Sg.lex_nil]; rfl
  | k + 1, p, q, h => by
    rw [lexF]
    by_cases hq : q = []
    · subst hq; rw [if_pos rfl, Sg.lex_nil]
    · have hl : (q.drop (max (piece q).2 1)).length ≤ k := by
        have := List.length_pos_iff.2 hq
        rw [List.length_drop]; omega
      rw [if_neg hq, lex, dif_neg hq]
      by_cases h0 : (piece q).1 = 0
      · rw [if_pos h0, if_pos h0]
      · rw [if_neg h0, if_neg h0]
        simp only
        rw [lexF_eq k _ _ hl]
def ansF (q : List Nat) : Int × (Nat × Nat) × List Tok :=
  if (lexF q.length (1, 1) q).2.2 then (0, (lexF q.length (1, 1) q).2.1, (lexF q.length (1, 1) q).1) else (10, (lexF q.length (1, 1) q).2.1, [])
theorem ansF_eq {q : List Nat} (h : q.length ≤ 3000) : Sg.ans (some q) = ansF q := by
  have e := lexF_eq q.length (1, 1) q (Nat.le_refl _)
  rw [ansF, ← e]
  cases h2 : (lex (1, 1) q).2.2 with
  | true => rw [Sg.ans_ok (by omega) h2]; rfl
  | false => rw [Sg.ans_bad (by omega) h2]; rfl
/-- What is told of an answer. -/
structure Told (r : Nd × (Nat × Nat) × Int) (code : Int) (pl : Nat × Nat) (k : Int) (a b : List UInt8) (n : Nat) : Prop where
  code : r.2.2 = code
  place : r.2.1 = pl
  kind : r.1.kind = k
  ta : r.1.ta.data.toList = a
  tb : r.1.tb.data.toList = b
  kids : r.1.kids.length = n
def exA : List Nat := [97, 32, 124, 32, 98, 32, 38, 32, 99, 32, 45, 32, 100]
def exB : List Nat := [97, 32, 45, 32, 98, 32, 45, 32, 99]
theorem exA_told : Told (answer zeroN union (ansF exA)) 0 (0, 0) 4 [] [] 2 := ⟨by decide +kernel, by decide +kernel, by decide +kernel, by decide +kernel, by decide +kernel, by decide +kernel⟩
theorem exA_kid : ((answer zeroN union (ansF exA)).1.kids.map Nd.kind) = [2, 5] := by decide +kernel
theorem exB_told : Told (answer zeroN union (ansF exB)) 11 (1, 7) 0 [] [] 0 := ⟨by decide +kernel, by decide +kernel, by decide +kernel, by decide +kernel, by decide +kernel, by decide +kernel⟩
/-- Brackets round an arrow. -/
def nest (k : Nat) : List Nat := List.replicate k 40 ++ [97, 45, 62, 98] ++ List.replicate k 41
instance (r : Nd × (Nat × Nat) × Int) (code : Int) (pl : Nat × Nat) (k : Int) (a b : List UInt8) (n : Nat) : Decidable (Told r code pl k a b n) :=
  decidable_of_iff (r.2.2 = code ∧ r.2.1 = pl ∧ r.1.kind = k ∧ r.1.ta.data.toList = a ∧ r.1.tb.data.toList = b ∧ r.1.kids.length = n) ⟨fun ⟨a, b, c, d, e, f⟩ => ⟨a, b, c, d, e, f⟩, fun ⟨a, b, c, d, e, f⟩ => ⟨a, b, c, d, e, f⟩⟩
theorem nests : ∀ k, k < 20 → Told (answer zeroN union (ansF (nest k))) (if 8 < k then 12 else 0) (if 8 < k then (1, 9) else (0, 0)) (if 8 < k then 0 else 3) (if 8 < k then [] else [97]) (if 8 < k then [] else [98]) 0 := by decide +kernel
theorem nest_len (k : Nat) (h : k < 20) : (nest k).length ≤ 3000 := by unfold nest; simp; omega
theorem nest_low (k : Nat) : ∀ r ∈ nest k, r < 128 := by
  intro r hr
  simp only [nest, List.mem_append, List.mem_replicate] at hr
  rcases hr with (⟨-, rfl⟩ | hr) | ⟨-, rfl⟩
  · decide
  · simp at hr; omega
  · decide
end Gr
end Go.Proofs.YtopncohhagebbaaDoor
