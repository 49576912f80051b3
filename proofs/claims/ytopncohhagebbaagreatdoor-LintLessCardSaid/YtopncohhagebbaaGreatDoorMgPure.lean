/-
  Plain mathematics under the statements of layer 1 (glyph): texts as lists of bytes, their runes, quotes, clips and order. No program is named here.
  Plain mathematics under the statements of layer 1 (glyph), second part: the runes of a text; hexadecimal digits; quotes, and how they are read.
  Plain mathematics: names, and ids, as lists of bytes.
  Plain mathematics of layer 5 (tract): nodes as trees; sizes, depths, what is good, references, whether there is a This; a list of nodes that is gone through.
  Plain mathematics under Clip, and under texts that are cut behind a rune.
  Plain mathematics under the statements of layer 6 (sigil): the tokens of a list of runes, with their places. No program is named here.
  Plain mathematics under the statements of layer 6 (sigil): tokens don't hang on the place; a text behind a line's end; tokens' texts with blanks behind them.
  Plain mathematics of layer 7 (grammar): what each part of the grammar reads of a list of tokens, and where it stops.
  Plain mathematics under package sigil's Lex: what its loop keeps.
  Plain mathematics of layer 7 (grammar): what is read where nothing is wrong is good, and no greater than what was taken.
  Plain mathematics of layer 7 (grammar): which errors there are; what a text's tokens are like.
  Plain mathematics of layer 7 (grammar): examples, reckoned.
-/
import Derived.Lib.DecodeN
import Derived.Lib.RuneBytes
import Derived.Lib.Strings
namespace Go.Proofs.YtopncohhagebbaaGreatDoor.Gly
open Go

def dec (l : List UInt8) : Nat × Nat := Lib.decodeN l.length (l.getD 0 0).toNat (l.getD 1 0).toNat (l.getD 2 0).toNat (l.getD 3 0).toNat

theorem getD_get (s : ByteArray) (i : Nat) : s.data.toList.getD i 0 = s.get! i := by
  cases s with
  | mk d =>
    show d.toList.getD i 0 = d[i]!
    by_cases h : i < d.size
    · rw [getElem!_pos d i h]; simp [List.getD, h]
    · rw [getElem!_neg d i h]; simp [List.getD, h]; rfl

theorem getD_drop (l : List UInt8) (p k : Nat) : (l.drop p).getD k 0 = l.getD (p + k) 0 := by simp [List.getD, List.getElem?_drop]

theorem dec_at (s : ByteArray) (p : Nat) : Utf8.decode s p = dec (s.data.toList.drop p) := by
  unfold dec
  rw [Lib.decode_at, getD_drop, getD_drop, getD_drop, getD_drop, List.length_drop, ← getD_get, ← getD_get, ← getD_get, ← getD_get, Lib.size_eq]
  rfl

def bad (l : List UInt8) : Bool := decide (dec l = (65533, 1))

def byte (l : List UInt8) (k : Nat) : Nat := (l.getD k 0).toNat
theorem byte_lt (l : List UInt8) (k : Nat) : byte l k < 256 := (l.getD k 0).toNat_lt
theorem dec_def (l : List UInt8) : dec l = Lib.decodeN l.length (byte l 0) (byte l 1) (byte l 2) (byte l 3) := rfl

theorem len_pos {l : List UInt8} (h : l ≠ []) : 0 < l.length := List.length_pos_iff.2 h

set_option maxHeartbeats 2000000 in
theorem dec_cases (l : List UInt8) (_h : l ≠ []) :
    (byte l 0 < 128 ∧ dec l = (byte l 0, 1)) ∨
    (192 ≤ byte l 0 ∧ byte l 0 < 224 ∧ 2 ≤ l.length ∧ byte l 1 / 64 = 2 ∧ 128 ≤ byte l 0 % 32 * 64 + byte l 1 % 64 ∧ dec l = (byte l 0 % 32 * 64 + byte l 1 % 64, 2)) ∨
    (224 ≤ byte l 0 ∧ byte l 0 < 240 ∧ 3 ≤ l.length ∧ byte l 1 / 64 = 2 ∧ byte l 2 / 64 = 2 ∧ 2048 ≤ byte l 0 % 16 * 4096 + byte l 1 % 64 * 64 + byte l 2 % 64 ∧
      (byte l 0 % 16 * 4096 + byte l 1 % 64 * 64 + byte l 2 % 64 < 55296 ∨ 57344 ≤ byte l 0 % 16 * 4096 + byte l 1 % 64 * 64 + byte l 2 % 64) ∧
      dec l = (byte l 0 % 16 * 4096 + byte l 1 % 64 * 64 + byte l 2 % 64, 3)) ∨
    (240 ≤ byte l 0 ∧ byte l 0 < 248 ∧ 4 ≤ l.length ∧ byte l 1 / 64 = 2 ∧ byte l 2 / 64 = 2 ∧ byte l 3 / 64 = 2 ∧ 65536 ≤ byte l 0 % 8 * 262144 + byte l 1 % 64 * 4096 + byte l 2 % 64 * 64 + byte l 3 % 64 ∧
      byte l 0 % 8 * 262144 + byte l 1 % 64 * 4096 + byte l 2 % 64 * 64 + byte l 3 % 64 ≤ 1114111 ∧
      dec l = (byte l 0 % 8 * 262144 + byte l 1 % 64 * 4096 + byte l 2 % 64 * 64 + byte l 3 % 64, 4)) ∨
    (128 ≤ byte l 0 ∧ dec l = (65533, 1)) := by
  have h0 := byte_lt l 0; have h1 := byte_lt l 1; have h2 := byte_lt l 2; have h3 := byte_lt l 3
  rw [dec_def]
  generalize byte l 0 = b0 at *
  generalize byte l 1 = b1 at *
  generalize byte l 2 = b2 at *
  generalize byte l 3 = b3 at *
  unfold Lib.decodeN
  by_cases c0 : b0 < 128
  · left; rw [if_pos c0]; exact ⟨c0, rfl⟩
  · right
    rw [if_neg c0]
    by_cases c1 : b0 / 32 = 6 ∧ (1 < l.length ∧ b1 / 64 = 2)
    · rw [if_pos c1]
      by_cases d : b0 % 32 * 64 + b1 % 64 ≥ 128
      · left; rw [if_pos d]; exact ⟨by omega, by omega, by omega, c1.2.2, d, rfl⟩
      · right; right; right; rw [if_neg d]; exact ⟨by omega, rfl⟩
    · rw [if_neg c1]
      by_cases c2 : b0 / 16 = 14 ∧ (1 < l.length ∧ b1 / 64 = 2) ∧ (2 < l.length ∧ b2 / 64 = 2)
      · rw [if_pos c2]
        split
        · rename_i d; right; left; exact ⟨by omega, by omega, by omega, c2.2.1.2, c2.2.2.2, d.1, by omega, rfl⟩
        · right; right; right; exact ⟨by omega, rfl⟩
      · rw [if_neg c2]
        by_cases c3 : b0 / 8 = 30 ∧ (1 < l.length ∧ b1 / 64 = 2) ∧ (2 < l.length ∧ b2 / 64 = 2) ∧ (3 < l.length ∧ b3 / 64 = 2)
        · rw [if_pos c3]
          split
          · rename_i d; right; right; left; exact ⟨by omega, by omega, by omega, c3.2.1.2, c3.2.2.1.2, c3.2.2.2.2, d.1, by omega, rfl⟩
          · right; right; right; exact ⟨by omega, rfl⟩
        · rw [if_neg c3]; right; right; right; exact ⟨by omega, rfl⟩

theorem dec_width (l : List UInt8) (h : l ≠ []) : 1 ≤ (dec l).2 ∧ (dec l).2 ≤ l.length ∧ (dec l).2 ≤ 4 := by
  have hp := len_pos h
  rcases dec_cases l h with ⟨_, e⟩ | ⟨_, _, _, _, _, e⟩ | ⟨_, _, _, _, _, _, _, e⟩ | ⟨_, _, _, _, _, _, _, _, e⟩ | ⟨_, e⟩ <;> rw [e] <;> simp <;> omega

theorem dec_max (l : List UInt8) (h : l ≠ []) : (dec l).1 ≤ 1114111 := by
  have h0 := byte_lt l 0; have h1 := byte_lt l 1; have h2 := byte_lt l 2; have h3 := byte_lt l 3
  rcases dec_cases l h with ⟨_, e⟩ | ⟨_, _, _, _, _, e⟩ | ⟨_, _, _, _, _, _, _, e⟩ | ⟨_, _, _, _, _, _, _, _, e⟩ | ⟨_, e⟩ <;> rw [e] <;> simp <;> omega

theorem cons_byte {l : List UInt8} (h : l ≠ []) : l = (l.getD 0 0) :: l.drop 1 := by
  cases l with
  | nil => exact absurd rfl h
  | cons a t => simp

theorem take_bytes {l : List UInt8} : ∀ (n : Nat), n ≤ l.length → l.take n = (List.range n).map fun k => l.getD k 0
  | 0, _ => rfl
  | n + 1, h => by
    rw [List.take_succ_eq_append_getElem (by omega), take_bytes n (by omega), List.range_succ, List.map_append]
    have : n < l.length := by omega
    simp [List.getD, this]

theorem nat_toU {n : Nat} {b : UInt8} (h : n = b.toNat) : n.toUInt8 = b := by rw [h]; simp

theorem encode_dec (l : List UInt8) (h : l ≠ []) (hb : bad l = false) : Lib.encodeRune ((dec l).1 : Int) = l.take (dec l).2 := by
  have hw := dec_width l h
  rw [take_bytes _ hw.2.1]
  unfold Lib.encodeRune
  have h0 := byte_lt l 0; have h1 := byte_lt l 1; have h2 := byte_lt l 2; have h3 := byte_lt l 3
  rcases dec_cases l h with ⟨a, e⟩ | ⟨a, b, c, d, f, e⟩ | ⟨a, b, c, d, f, g, i, e⟩ | ⟨a, b, c, d, f, g, i, j, e⟩ | ⟨a, e⟩
  · rw [e, Lib.encodeRuneZ_one (by simp) (by simp; omega)]
    simp [List.range_succ]
    exact nat_toU rfl
  · rw [e, Lib.encodeRuneZ_two (by simp; omega) (by simp; omega)]
    simp only [List.map_cons, List.map_nil, List.range_succ, List.range_zero, List.nil_append, List.cons_append]
    congr 1
    · refine nat_toU ?_; change _ = byte l 0; omega
    · congr 1; refine nat_toU ?_; change _ = byte l 1; omega
  · rw [e, Lib.encodeRuneZ_three (by simp; omega)]
    simp only [List.map_cons, List.map_nil, List.range_succ, List.range_zero, List.nil_append, List.cons_append]
    congr 1
    · refine nat_toU ?_; change _ = byte l 0; omega
    · congr 1
      · refine nat_toU ?_; change _ = byte l 1; omega
      · congr 1; refine nat_toU ?_; change _ = byte l 2; omega
  · rw [e, Lib.encodeRuneZ_four (by simp; omega) (by simp; omega)]
    simp only [List.map_cons, List.map_nil, List.range_succ, List.range_zero, List.nil_append, List.cons_append]
    congr 1
    · refine nat_toU ?_; change _ = byte l 0; omega
    · congr 1
      · refine nat_toU ?_; change _ = byte l 1; omega
      · congr 1
        · refine nat_toU ?_; change _ = byte l 2; omega
        · congr 1; refine nat_toU ?_; change _ = byte l 3; omega
  · rw [bad, e] at hb; simp at hb

theorem stray_eq (l : List UInt8) (h : l ≠ []) : (((dec l).1 : Int) == 65533 && !Lib.hasPrefix l [239, 191, 189]) = bad l := by
  by_cases hb : bad l = true
  · have e : dec l = (65533, 1) := by simpa [bad] using hb
    rw [hb, e]
    simp only [Bool.and_eq_true, Bool.not_eq_true']
    refine ⟨by decide, ?_⟩
    cases hp : Lib.hasPrefix l [239, 191, 189] with
    | false => rfl
    | true =>
      rw [Lib.hasPrefix, List.isPrefixOf_iff_prefix] at hp
      obtain ⟨t, rfl⟩ := hp
      exfalso
      simp [dec, Lib.decodeN] at e
  · have hb' : bad l = false := by simpa using hb
    rw [hb']
    by_cases e : (dec l).1 = 65533
    · have he := encode_dec l h hb'
      rw [e] at he
      have hp : Lib.hasPrefix l [239, 191, 189] = true := by
        rw [Lib.hasPrefix, List.isPrefixOf_iff_prefix]
        have : Lib.encodeRune ((65533 : Nat) : Int) = [239, 191, 189] := by decide
        rw [← this, he]
        exact List.take_prefix _ _
      rw [hp]; simp
    · have : (((dec l).1 : Int) == 65533) = false := by simp; omega
      rw [this]; rfl
end Go.Proofs.YtopncohhagebbaaGreatDoor.Gly

namespace Go.Proofs.YtopncohhagebbaaGreatDoor.Gly
open Go

theorem drop_lt {l : List UInt8} (h : l ≠ []) : (l.drop (dec l).2).length < l.length := by
  have := dec_width l h
  rw [List.length_drop]; omega

def runes (l : List UInt8) : Option (List Nat) :=
  if _h : l = [] then some [] else if bad l then none else (runes (l.drop (dec l).2)).map fun t => (dec l).1 :: t
termination_by l.length
decreasing_by exact drop_lt (by assumption)

theorem runes_nil : runes [] = some [] := by rw [runes]; rfl
theorem runes_bad {l : List UInt8} (h : l ≠ []) (hb : bad l = true) : runes l = none := by rw [runes, dif_neg h, if_pos hb]
theorem runes_step {l : List UInt8} (h : l ≠ []) (hb : bad l = false) : runes l = (runes (l.drop (dec l).2)).map fun t => (dec l).1 :: t := by
  rw [runes, dif_neg h, if_neg (by rw [hb]; exact Bool.false_ne_true)]

def cnt (n : Nat) (l : List UInt8) : Option Nat := (runes l).map fun t => n + t.length
theorem cnt_nil (n : Nat) : cnt n [] = some n := by simp [cnt, runes_nil]
theorem cnt_bad {n : Nat} {l : List UInt8} (h : l ≠ []) (hb : bad l = true) : cnt n l = none := by simp [cnt, runes_bad h hb]
theorem cnt_step {n : Nat} {l : List UInt8} (h : l ≠ []) (hb : bad l = false) : cnt n l = cnt (n + 1) (l.drop (dec l).2) := by
  rw [cnt, cnt, runes_step h hb]
  cases runes (l.drop (dec l).2) with
  | none => rfl
  | some t => simp; omega

def letterB (r : Nat) : Bool := decide (97 ≤ r ∧ r ≤ 122)
def digitB (r : Nat) : Bool := decide (48 ≤ r ∧ r ≤ 57)
def plainB (r : Nat) : Bool := decide (33 ≤ r ∧ (r < 127 ∨ 160 < r) ∧ r ≠ 35 ∧ r ≠ 64 ∧ r ≠ 58 ∧ r ≠ 42 ∧ r ≠ 44 ∧ r ≠ 40 ∧ r ≠ 41 ∧ r ≠ 34 ∧ r ≠ 92 ∧ r ≠ 59)

def idFrom (n : Nat) (l : List UInt8) : Bool :=
  if _h : l = [] then decide (0 < n) else if 24 < n + 1 then false else if plainB (dec l).1 && !bad l then idFrom (n + 1) (l.drop (dec l).2) else false
termination_by l.length
decreasing_by exact drop_lt (by assumption)
def idB (l : List UInt8) : Bool := idFrom 0 l
def hexDigit (d : Nat) : UInt8 := if d < 10 then (48 + d).toUInt8 else (87 + d).toUInt8
def hex (n : Nat) : List UInt8 := if _h : n < 16 then [hexDigit n] else hex (n / 16) ++ [hexDigit (n % 16)]
termination_by n
decreasing_by omega

def shown (r : Nat) : Bool := decide (r ≠ 34 ∧ r ≠ 92 ∧ (32 ≤ r ∧ r ≤ 126 ∨ 161 ≤ r))
def piece (l : List UInt8) : List UInt8 :=
  if bad l then [92, 120, 123] ++ hex (byte l 0) ++ [125] else if shown (dec l).1 then l.take (dec l).2 else [92, 117, 123] ++ hex (dec l).1 ++ [125]
def qb (l : List UInt8) : List UInt8 :=
  if _h : l = [] then [] else piece l ++ qb (l.drop (dec l).2)
termination_by l.length
decreasing_by exact drop_lt (by assumption)

def quote (l : List UInt8) : List UInt8 := [34] ++ qb l ++ [34]

end Go.Proofs.YtopncohhagebbaaGreatDoor.Gly

namespace Go.Proofs.YtopncohhagebbaaGreatDoor
open Go.RowKit
namespace Gly

def nameOk : Bool → List UInt8 → Bool
  | _, [] => true
  | first, c :: t => (letterB c.toNat || (!first && (digitB c.toNat || c.toNat == 95))) && nameOk false t
def nameB (l : List UInt8) : Bool := decide (1 ≤ l.length ∧ l.length ≤ 16) && nameOk true l

theorem nameOk_step {l : List UInt8} (h : l ≠ []) (first : Bool) : nameOk first l = ((letterB (byte l 0) || (!first && (digitB (byte l 0) || byte l 0 == 95))) && nameOk false (l.drop 1)) := by
  cases l with
  | nil => exact absurd rfl h
  | cons c t => rfl
theorem dec_low {l : List UInt8} (_h : l ≠ []) (hb : byte l 0 < 128) : dec l = (byte l 0, 1) := by rw [dec_def, Lib.decodeN, if_pos hb]
theorem dec_high {l : List UInt8} (h : l ≠ []) (hb : 128 ≤ byte l 0) : 128 ≤ (dec l).1 := by
  have h0 := byte_lt l 0; have h1 := byte_lt l 1; have h2 := byte_lt l 2; have h3 := byte_lt l 3
  rcases dec_cases l h with ⟨_, e⟩ | ⟨_, _, _, _, _, e⟩ | ⟨_, _, _, _, _, _, _, e⟩ | ⟨_, _, _, _, _, _, _, _, e⟩ | ⟨_, e⟩ <;> rw [e] <;> simp <;> omega

theorem nameOk_rune {l : List UInt8} (h : l ≠ []) (first : Bool) : nameOk first l = ((letterB (dec l).1 || (!first && (digitB (dec l).1 || (dec l).1 == 95))) && nameOk false (l.drop (dec l).2)) := by
  rw [nameOk_step h]
  by_cases hb : byte l 0 < 128
  · rw [dec_low h hb]
  · have := dec_high h (by omega)
    have a1 : letterB (byte l 0) = false := by simp [letterB]; omega
    have a2 : digitB (byte l 0) = false := by simp [digitB]; omega
    have a3 : (byte l 0 == 95) = false := by simp; omega
    have b1 : letterB (dec l).1 = false := by simp [letterB]; omega
    have b2 : digitB (dec l).1 = false := by simp [digitB]; omega
    have b3 : ((dec l).1 == 95) = false := by simp; omega
    rw [a1, a2, a3, b1, b2, b3]
    cases first <;> rfl
end Gly
namespace Gly

end Gly
end Go.Proofs.YtopncohhagebbaaGreatDoor

namespace Go.Proofs.YtopncohhagebbaaGreatDoor
open Go.RowKit
namespace Tr

inductive Nd where
  | mk (k : Int) (a b : ByteArray) (kids : List Nd)
namespace Nd
def kind : Nd → Int
  | .mk k _ _ _ => k
def ta : Nd → ByteArray
  | .mk _ a _ _ => a
def tb : Nd → ByteArray
  | .mk _ _ b _ => b
def kids : Nd → List Nd
  | .mk _ _ _ l => l
end Nd

mutual
def size : Nd → Nat
  | .mk _ _ _ l => 1 + sizes l
def sizes : List Nd → Nat
  | [] => 0
  | n :: r => size n + sizes r
end
mutual
def depth : Nd → Nat
  | .mk _ _ _ l => 1 + depths l
def depths : List Nd → Nat
  | [] => 0
  | n :: r => max (depth n) (depths r)
end

theorem size_pos (n : Nd) : 1 ≤ size n := by cases n; rw [size]; omega
theorem depth_pos (n : Nd) : 1 ≤ depth n := by cases n; rw [depth]; omega
theorem size_kids (n : Nd) : size n = 1 + sizes n.kids := by cases n; rw [size]; rfl
theorem depth_kids (n : Nd) : depth n = 1 + depths n.kids := by cases n; rw [depth]; rfl
theorem sizes_append : ∀ l m : List Nd, sizes (l ++ m) = sizes l + sizes m
  | [], m => by simp [sizes]
  | n :: l, m => by rw [List.cons_append, sizes, sizes, sizes_append l m]; omega
theorem sizes_mem : ∀ {l : List Nd} {n : Nd}, n ∈ l → size n ≤ sizes l
  | m :: l, n, h => by
    rw [sizes]
    rcases List.mem_cons.1 h with rfl | h
    · omega
    · have := sizes_mem h; omega
theorem sizes_len : ∀ l : List Nd, l.length ≤ sizes l
  | [] => Nat.zero_le _
  | n :: l => by have := sizes_len l; have := size_pos n; rw [sizes, List.length_cons]; omega
theorem sizes_take {l : List Nd} {i : Nat} (h : i < l.length) : sizes (l.take (i + 1)) = sizes (l.take i) + size l[i] := by
  rw [List.take_succ_eq_append_getElem h, sizes_append]
  simp [sizes]
theorem sizes_part (l : List Nd) (i : Nat) : sizes (l.take i) ≤ sizes l := by
  have h : sizes (l.take i ++ l.drop i) = sizes l := by rw [List.take_append_drop]
  rw [sizes_append] at h
  omega
theorem depth_le_size : ∀ (k : Nat) (n : Nd), size n ≤ k → depth n ≤ size n
  | 0, n, h => by have := size_pos n; omega
  | k + 1, .mk _ _ _ l, h => by
    rw [size] at h
    have hl : ∀ l' : List Nd, sizes l' ≤ k → depths l' ≤ sizes l' := by
      intro l'
      induction l' with
      | nil => intro _; rw [depths]; omega
      | cons n r ih =>
        intro h'
        rw [sizes] at h'
        have h1 := depth_le_size k n (by omega)
        have h2 := ih (by omega)
        rw [depths, sizes]
        omega
    have := hl l (by omega)
    rw [depth, size]
    omega
theorem depth_le (n : Nd) : depth n ≤ size n := depth_le_size _ n (Nat.le_refl _)
theorem depths_le : ∀ l : List Nd, depths l ≤ sizes l
  | [] => by rw [depths]; omega
  | n :: l => by
    have := depth_le n
    have := depths_le l
    rw [depths, sizes]
    omega
theorem depths_append : ∀ l m : List Nd, depths (l ++ m) = max (depths l) (depths m)
  | [], m => by simp [depths]
  | n :: l, m => by rw [List.cons_append, depths, depths, depths_append l m]; omega
theorem depths_take {l : List Nd} {i : Nat} (h : i < l.length) : depths (l.take (i + 1)) = max (depths (l.take i)) (depth l[i]) := by
  rw [List.take_succ_eq_append_getElem h, depths_append]
  simp [depths]

def none0 : ByteArray := ⟨#[]⟩
def nil (s : ByteArray) : Bool := s.data.toList.isEmpty
def word (s : ByteArray) : Bool := Gly.nameB s.data.toList && (!s.data.toList == [116, 121, 112, 101] && !s.data.toList == [114, 101, 108] && !s.data.toList == [116, 104, 105, 115])
def fits : Nd → Bool
  | .mk k a b l =>
    (k == 1 && (nil a && nil b && l.length == 0)) || (k == 2 && (word a && nil b && l.length == 0)) || (k == 3 && (word a && word b && l.length == 0)) ||
    ((k == 4 || k == 5) && (nil a && nil b && decide (2 ≤ l.length))) || (k == 6 && (nil a && nil b && l.length == 2))
mutual
def good : Nd → Bool
  | .mk k a b l => goods l && fits (.mk k a b l)
def goods : List Nd → Bool
  | [] => true
  | n :: r => good n && goods r
end
theorem good_kids (n : Nd) : good n = (goods n.kids && fits n) := by cases n; rw [good]; rfl
theorem goods_append : ∀ l m : List Nd, goods (l ++ m) = (goods l && goods m)
  | [], m => by simp [goods]
  | n :: l, m => by rw [List.cons_append, goods, goods, goods_append l m, Bool.and_assoc]
theorem goods_take {l : List Nd} {i : Nat} (h : i < l.length) : goods (l.take (i + 1)) = (goods (l.take i) && good l[i]) := by
  rw [List.take_succ_eq_append_getElem h, goods_append]
  simp [goods]
theorem goods_part {l : List Nd} {i : Nat} (h : goods (l.take i) = false) : goods l = false := by
  have e : goods (l.take i ++ l.drop i) = goods l := by rw [List.take_append_drop]
  rw [← e, goods_append, h, Bool.false_and]
theorem goods_mem : ∀ {l : List Nd} {n : Nd}, goods l = true → n ∈ l → good n = true
  | m :: l, n, h, hm => by
    rw [goods, Bool.and_eq_true] at h
    rcases List.mem_cons.1 hm with rfl | hm
    · exact h.1
    · exact goods_mem h.2 hm
def errOf (n : Nd) : Int := if good n = false then 2 else if 24 < size n then 3 else if 8 < depth n then 12 else 0

structure Rf where
  via : ByteArray
  rel : ByteArray
  odd : Bool
def flip (k : Int) (i : Nat) : Bool := k == 6 && i == 1
mutual
def refs : Nd → Bool → List Rf
  | .mk k a b l, odd => if k = 2 then [⟨none0, a, odd⟩] else if k = 3 then [⟨a, b, odd⟩] else refss k l 0 odd
def refss (k : Int) : List Nd → Nat → Bool → List Rf
  | [], _, _ => []
  | n :: r, i, odd => refs n (odd != flip k i) ++ refss k r (i + 1) odd
end
mutual
def direct : Nd → Bool → Bool → Bool
  | .mk k _ _ l, odd, own => directs k l 0 odd own || (k == 1 && odd == own)
def directs (k : Int) : List Nd → Nat → Bool → Bool → Bool
  | [], _, _, _ => false
  | n :: r, i, odd, own => direct n odd (own != flip k i) || directs k r (i + 1) odd own
end
theorem refss_append (k : Int) (odd : Bool) : ∀ (l m : List Nd) (i : Nat), refss k (l ++ m) i odd = refss k l i odd ++ refss k m (i + l.length) odd
  | [], m, i => by simp [refss]
  | n :: l, m, i => by rw [List.cons_append, refss, refss, refss_append k odd l m (i + 1), List.append_assoc, List.length_cons, show i + 1 + l.length = i + (l.length + 1) by omega]
theorem refss_take (k : Int) (odd : Bool) {l : List Nd} {i : Nat} (h : i < l.length) : refss k (l.take (i + 1)) 0 odd = refss k (l.take i) 0 odd ++ refs l[i] (odd != flip k i) := by
  rw [List.take_succ_eq_append_getElem h, refss_append, List.length_take, Nat.min_eq_left (by omega)]
  simp [refss]
theorem directs_append (k : Int) (odd own : Bool) : ∀ (l m : List Nd) (i : Nat), directs k (l ++ m) i odd own = (directs k l i odd own || directs k m (i + l.length) odd own)
  | [], m, i => by simp [directs]
  | n :: l, m, i => by rw [List.cons_append, directs, directs, directs_append k odd own l m (i + 1), Bool.or_assoc, List.length_cons, show i + 1 + l.length = i + (l.length + 1) by omega]
theorem directs_take (k : Int) (odd own : Bool) {l : List Nd} {i : Nat} (h : i < l.length) : directs k (l.take (i + 1)) 0 odd own = (directs k (l.take i) 0 odd own || direct l[i] odd (own != flip k i)) := by
  rw [List.take_succ_eq_append_getElem h, directs_append, List.length_take, Nat.min_eq_left (by omega)]
  simp [directs]
theorem directs_part (k : Int) (odd own : Bool) {l : List Nd} {i : Nat} (h : directs k (l.take i) 0 odd own = true) : directs k l 0 odd own = true := by
  have e : directs k (l.take i ++ l.drop i) 0 odd own = directs k l 0 odd own := by rw [List.take_append_drop]
  rw [← e, directs_append, h, Bool.true_or]
mutual
theorem refs_len : ∀ (n : Nd) (odd : Bool), (refs n odd).length ≤ size n
  | .mk k a b l, odd => by
    have h := refss_len k l 0 odd
    rw [refs, size]
    split
    · simp
    · split
      · simp
      · omega
theorem refss_len (k : Int) : ∀ (l : List Nd) (i : Nat) (odd : Bool), (refss k l i odd).length ≤ sizes l
  | [], i, odd => by simp [refss]
  | n :: r, i, odd => by
    have h1 := refs_len n (odd != flip k i)
    have h2 := refss_len k r (i + 1) odd
    rw [refss, sizes, List.length_append]
    omega
end

section
variable {σ : Type} (go : σ → Nd → Nat → Bool) (stp : σ → Nd → Nat → σ)
def push (n : Nd) (d : Nat) (r : List (Nd × Nat)) : List (Nd × Nat) := (n.kids.map fun x => (x, d + 1)).reverse ++ r
def run : Nat → List (Nd × Nat) → σ → Bool × σ
  | 0, _, s => (true, s)
  | _ + 1, [], s => (true, s)
  | f + 1, (n, d) :: r, s => if go s n d then run f (push n d r) (stp s n d) else (false, stp s n d)
end
def tot (l : List (Nd × Nat)) : Nat := sizes (l.map Prod.fst)
theorem tot_cons (n : Nd) (d : Nat) (r : List (Nd × Nat)) : tot ((n, d) :: r) = size n + tot r := by simp [tot, sizes]
theorem sizes_reverse : ∀ l : List Nd, sizes l.reverse = sizes l
  | [] => rfl
  | n :: l => by rw [List.reverse_cons, sizes_append, sizes_reverse l]; simp [sizes]; omega
theorem fst_push (n : Nd) (d : Nat) (r : List (Nd × Nat)) : (push n d r).map Prod.fst = n.kids.reverse ++ r.map Prod.fst := by
  simp [push, List.map_reverse, Function.comp_def]
theorem tot_push (n : Nd) (d : Nat) (r : List (Nd × Nat)) : tot (push n d r) + 1 = tot ((n, d) :: r) := by
  rw [tot, fst_push, sizes_append, sizes_reverse, tot_cons, size_kids]
  show _ + tot r + 1 = _
  omega
theorem goods_reverse : ∀ l : List Nd, goods l.reverse = goods l
  | [] => rfl
  | n :: l => by rw [List.reverse_cons, goods_append, goods_reverse l, goods, Bool.and_comm]; simp [goods]

theorem run_good : ∀ (f : Nat) (l : List (Nd × Nat)), tot l ≤ f → (run (σ := Unit) (fun _ n _ => fits n) (fun _ _ _ => ()) f l ()).1 = goods (l.map Prod.fst)
  | 0, [], _ => rfl
  | 0, (n, d) :: r, h => by rw [tot_cons] at h; have := size_pos n; omega
  | f + 1, [], _ => rfl
  | f + 1, (n, d) :: r, h => by
    have hp := tot_push n d r
    rw [run, List.map_cons, goods, good_kids]
    cases hf : fits n with
    | true =>
      rw [if_pos rfl, run_good f _ (by omega), fst_push, goods_append, goods_reverse, Bool.and_true]
    | false => simp
theorem run_size : ∀ (f : Nat) (l : List (Nd × Nat)) (s : Nat), tot l ≤ f → run (σ := Nat) (fun _ _ _ => true) (fun s _ _ => s + 1) f l s = (true, s + tot l)
  | 0, [], s, _ => rfl
  | 0, (n, d) :: r, s, h => by rw [tot_cons] at h; have := size_pos n; omega
  | f + 1, [], s, _ => rfl
  | f + 1, (n, d) :: r, s, h => by
    have hp := tot_push n d r
    rw [run, if_pos rfl, run_size f _ _ (by omega)]
    simp only [Prod.mk.injEq, true_and]
    omega
def deep : List (Nd × Nat) → Nat
  | [] => 0
  | (n, d) :: r => max (d + (depth n - 1)) (deep r)
theorem deep_append : ∀ l m : List (Nd × Nat), deep (l ++ m) = max (deep l) (deep m)
  | [], m => by simp [deep]
  | (n, d) :: l, m => by rw [List.cons_append, deep, deep, deep_append l m]; omega
theorem deep_reverse : ∀ l : List (Nd × Nat), deep l.reverse = deep l
  | [] => rfl
  | (n, d) :: l => by rw [List.reverse_cons, deep_append, deep_reverse l]; simp [deep]; omega
theorem deep_kids (d : Nat) : ∀ l : List Nd, max d (deep (l.map fun x => (x, d + 1))) = d + depths l
  | [] => by simp [deep, depths]
  | n :: l => by
    have := deep_kids d l
    have := depth_pos n
    rw [List.map_cons, deep, depths]
    omega
theorem run_depth : ∀ (f : Nat) (l : List (Nd × Nat)) (s : Nat), tot l ≤ f → run (σ := Nat) (fun _ _ _ => true) (fun s _ d => max s d) f l s = (true, max s (deep l))
  | 0, [], s, _ => by simp [run, deep]
  | 0, (n, d) :: r, s, h => by rw [tot_cons] at h; have := size_pos n; omega
  | f + 1, [], s, _ => by simp [run, deep]
  | f + 1, (n, d) :: r, s, h => by
    have hp := tot_push n d r
    have hk := deep_kids d n.kids
    have hd := depth_kids n
    rw [run, if_pos rfl, run_depth f _ _ (by omega), push, deep_append, deep_reverse, deep]
    simp only [Prod.mk.injEq, true_and]
    omega
end Tr
end Go.Proofs.YtopncohhagebbaaGreatDoor

namespace Go.Proofs.YtopncohhagebbaaGreatDoor.Gly
open Go

def pre : Nat → List UInt8 → Nat
  | 0, _ => 0
  | n + 1, l => if l = [] then 0 else (dec l).2 + pre n (l.drop (dec l).2)

theorem pre_nil (n : Nat) : pre n [] = 0 := by cases n <;> simp [pre]
theorem pre_step {n : Nat} {l : List UInt8} (h : l ≠ []) : pre (n + 1) l = (dec l).2 + pre n (l.drop (dec l).2) := by rw [pre, if_neg h]

theorem pre_le : ∀ (n : Nat) (l : List UInt8), pre n l ≤ l.length
  | 0, _ => Nat.zero_le _
  | n + 1, l => by
    by_cases h : l = []
    · subst h; rw [pre_nil]; exact Nat.zero_le _
    · rw [pre_step h]
      have := pre_le n (l.drop (dec l).2)
      have hw := dec_width l h
      rw [List.length_drop] at this
      omega

theorem pre_stop : ∀ (n : Nat) (l : List UInt8), l.drop (pre n l) = [] → pre (n + 1) l = pre n l
  | 0, l, h => by
    have h' : l = [] := by simpa [pre] using h
    subst h'; rw [pre_nil, pre_nil]
  | n + 1, l, h => by
    by_cases hl : l = []
    · subst hl; rw [pre_nil, pre_nil]
    · rw [pre_step hl, ← List.drop_drop] at h
      rw [pre_step hl, pre_stop n _ h, pre_step hl]

theorem pre_full {k : Nat} {l : List UInt8} (h : l.drop (pre k l) = []) : ∀ n, k ≤ n → pre n l = l.length := by
  have base : pre k l = l.length := by
    have h1 := pre_le k l
    have h2 := congrArg List.length h
    rw [List.length_drop] at h2
    simp at h2
    omega
  have step : ∀ d, pre (k + d) l = l.length := by
    intro d
    induction d with
    | zero => exact base
    | succ d ih =>
      have : l.drop (pre (k + d) l) = [] := by rw [ih]; exact List.drop_length
      rw [← Nat.add_assoc, pre_stop _ _ this, ih]
  intro n hn
  have := step (n - k)
  rwa [show k + (n - k) = n by omega] at this

theorem runes_drop : ∀ (n : Nat) (l : List UInt8) (t : List Nat), runes l = some t → runes (l.drop (pre n l)) = some (t.drop n)
  | 0, l, t, h => by simpa [pre] using h
  | n + 1, l, t, h => by
    by_cases hl : l = []
    · subst hl
      rw [runes_nil] at h; cases h
      rw [pre_nil]; simp [runes_nil]
    · cases hb : bad l with
      | true => rw [runes_bad hl hb] at h; cases h
      | false =>
        rw [runes_step hl hb] at h
        cases hu : runes (l.drop (dec l).2) with
        | none => rw [hu] at h; cases h
        | some u =>
          rw [hu] at h; cases h
          rw [pre_step hl, ← List.drop_drop]
          simpa using runes_drop n _ u hu

theorem runes_some_nil {l : List UInt8} (h : runes l = some []) : l = [] := by
  apply Classical.byContradiction
  intro hl
  cases hb : bad l with
  | true => rw [runes_bad hl hb] at h; cases h
  | false =>
    rw [runes_step hl hb] at h
    cases hu : runes (l.drop (dec l).2) with
    | none => rw [hu] at h; cases h
    | some u => rw [hu] at h; cases h
theorem runes_good {l : List UInt8} {t : List Nat} (h : runes l = some t) (hl : l ≠ []) : bad l = false := by
  cases hb : bad l with
  | true => rw [runes_bad hl hb] at h; cases h
  | false => rfl
theorem runes_ne {l : List UInt8} {t : List Nat} (h : runes l = some t) (ht : t ≠ []) : l ≠ [] := by
  intro e; subst e; rw [runes_nil] at h; exact ht (Option.some.inj h).symm

theorem pre_all {l : List UInt8} {t : List Nat} (h : runes l = some t) {n : Nat} (hn : t.length ≤ n) : pre n l = l.length := by
  refine pre_full (k := t.length) ?_ n hn
  have := runes_drop t.length l t h
  rw [List.drop_length] at this
  exact runes_some_nil this

end Go.Proofs.YtopncohhagebbaaGreatDoor.Gly

namespace Go.Proofs.YtopncohhagebbaaGreatDoor.Sg
open Go

def blank (r : Nat) : Bool := decide (r = 9 ∨ r = 10 ∨ r = 13 ∨ r = 32 ∨ r = 12288)
def letter (r : Nat) : Bool := decide (97 ≤ r ∧ r ≤ 122)
def inWord (r : Nat) : Bool := decide ((97 ≤ r ∧ r ≤ 122) ∨ (48 ≤ r ∧ r ≤ 57) ∨ r = 95)
def inLine (r : Nat) : Bool := decide (r ≠ 10)
def signs : List Nat := [123, 125, 91, 93, 40, 41, 61, 59, 44, 58, 35, 42, 124, 38, 45]
def sign (r : Nat) : Bool := signs.contains r

theorem letter_inWord {r : Nat} (h : letter r = true) : inWord r = true := by
  simp only [letter, inWord, decide_eq_true_eq] at *; exact .inl h
theorem inWord_low {r : Nat} (h : inWord r = true) : r < 128 := by
  simp only [inWord, decide_eq_true_eq] at h; omega
theorem sign_mem {r : Nat} (h : sign r = true) : r ∈ signs := by simpa [sign] using h
theorem sign_low {r : Nat} (h : sign r = true) : r < 128 ∧ blank r = false ∧ letter r = false ∧ r ≠ 47 ∧ 6 ≤ r := by
  have : ∀ x ∈ signs, x < 128 ∧ blank x = false ∧ letter x = false ∧ x ≠ 47 ∧ 6 ≤ x := by decide
  exact this r (sign_mem h)

def behind (p : Nat × Nat) (r : Nat) : Nat × Nat := if r = 10 then (p.1 + 1, 1) else (p.1, p.2 + 1)
def behinds (p : Nat × Nat) (q : List Nat) : Nat × Nat := q.foldl behind p
theorem behinds_nil (p : Nat × Nat) : behinds p [] = p := rfl
theorem behinds_cons (p : Nat × Nat) (r : Nat) (t : List Nat) : behinds p (r :: t) = behinds (behind p r) t := rfl
def kindOf (t : List Nat) : Int := if t = [116, 121, 112, 101] then 2 else if t = [114, 101, 108] then 3 else if t = [116, 104, 105, 115] then 4 else 1
def run (f : Nat → Bool) (q : List Nat) : Nat := (q.takeWhile f).length
def word (q : List Nat) : Int × Nat := if 16 < run inWord q then (0, 0) else (kindOf (q.take (run inWord q)), run inWord q)
def piece : List Nat → Int × Nat
  | [] => (0, 0)
  | r :: t =>
    if blank r then (-1, run blank (r :: t))
    else if r = 47 ∧ t.headD 0 = 47 then (-1, run inLine (r :: t))
    else if letter r then word (r :: t)
    else if r = 45 ∧ t.headD 0 = 62 then (5, 2)
    else if sign r then (r, 1)
    else (0, 0)

theorem run_le (f : Nat → Bool) (q : List Nat) : run f q ≤ q.length := (List.takeWhile_sublist _).length_le
theorem run_cons {f : Nat → Bool} {r : Nat} (t : List Nat) (h : f r = true) : run f (r :: t) = run f t + 1 := by
  simp [run, h]
theorem run_stop {f : Nat → Bool} {r : Nat} (t : List Nat) (h : f r = false) : run f (r :: t) = 0 := by
  simp [run, h]
theorem run_nil (f : Nat → Bool) : run f [] = 0 := rfl
theorem run_all {f : Nat → Bool} : ∀ {q : List Nat}, ∀ x ∈ q.take (run f q), f x = true
  | [], x, hx => by simp at hx
  | r :: t, x, hx => by
    cases h : f r with
    | false => rw [run_stop _ h] at hx; simp at hx
    | true =>
      rw [run_cons _ h, List.take_succ_cons] at hx
      rcases List.mem_cons.1 hx with rfl | hx
      · exact h
      · exact run_all x hx
theorem kindOf_pos (t : List Nat) : 1 ≤ kindOf t ∧ kindOf t ≤ 4 := by
  unfold kindOf; split <;> (try split) <;> (try split) <;> omega

theorem piece_cases (r : Nat) (t : List Nat) :
    (blank r = true ∧ piece (r :: t) = (-1, run blank (r :: t))) ∨
    (blank r = false ∧ r = 47 ∧ t.headD 0 = 47 ∧ piece (r :: t) = (-1, run inLine (r :: t))) ∨
    (blank r = false ∧ letter r = true ∧ r ≠ 47 ∧ r ≠ 45 ∧ run inWord (r :: t) ≤ 16 ∧ piece (r :: t) = (kindOf ((r :: t).take (run inWord (r :: t))), run inWord (r :: t))) ∨
    (blank r = false ∧ letter r = true ∧ r ≠ 47 ∧ r ≠ 45 ∧ 16 < run inWord (r :: t) ∧ piece (r :: t) = (0, 0)) ∨
    (blank r = false ∧ letter r = false ∧ r = 45 ∧ t.headD 0 = 62 ∧ piece (r :: t) = (5, 2)) ∨
    (blank r = false ∧ letter r = false ∧ sign r = true ∧ ¬ (r = 45 ∧ t.headD 0 = 62) ∧ piece (r :: t) = ((r : Int), 1)) ∨
    (blank r = false ∧ letter r = false ∧ sign r = false ∧ ¬ (r = 47 ∧ t.headD 0 = 47) ∧ piece (r :: t) = (0, 0)) := by
  rw [piece]
  cases hb : blank r with
  | true => exact .inl ⟨rfl, if_pos rfl⟩
  | false =>
    rw [if_neg (by simp)]
    by_cases h1 : r = 47 ∧ t.headD 0 = 47
    · rw [if_pos h1]; exact .inr (.inl ⟨rfl, h1.1, h1.2, rfl⟩)
    · rw [if_neg h1]
      cases hl : letter r with
      | true =>
        have h47 : r ≠ 47 ∧ r ≠ 45 := by simp only [letter, decide_eq_true_eq] at hl; omega
        rw [if_pos rfl, word]
        by_cases h2 : 16 < run inWord (r :: t)
        · rw [if_pos h2]; exact .inr (.inr (.inr (.inl ⟨rfl, rfl, h47.1, h47.2, h2, rfl⟩)))
        · rw [if_neg h2]; exact .inr (.inr (.inl ⟨rfl, rfl, h47.1, h47.2, by omega, rfl⟩))
      | false =>
        rw [if_neg (by simp)]
        by_cases h2 : r = 45 ∧ t.headD 0 = 62
        · rw [if_pos h2]; exact .inr (.inr (.inr (.inr (.inl ⟨rfl, rfl, h2.1, h2.2, rfl⟩))))
        · rw [if_neg h2]
          cases hs : sign r with
          | true => rw [if_pos rfl]; exact .inr (.inr (.inr (.inr (.inr (.inl ⟨rfl, rfl, rfl, h2, rfl⟩)))))
          | false => rw [if_neg (by simp)]; exact .inr (.inr (.inr (.inr (.inr (.inr ⟨rfl, rfl, rfl, h1, rfl⟩)))))

theorem headD_ne {t : List Nat} {x : Nat} (h : t.headD 0 = x) (hx : x ≠ 0) : ∃ u, t = x :: u := by
  cases t with
  | nil => exact absurd h.symm hx
  | cons a u => exact ⟨u, by rw [List.headD_cons] at h; rw [h]⟩

theorem piece_size (q : List Nat) : (piece q).2 ≤ q.length ∧ ((piece q).1 ≠ 0 → 1 ≤ (piece q).2) ∧ -1 ≤ (piece q).1 ∧ ((piece q).1 = 0 → (piece q).2 = 0) := by
  cases q with
  | nil => simp [piece]
  | cons r t =>
    have hb := run_le blank (r :: t)
    have hl := run_le inLine (r :: t)
    have hw := run_le inWord (r :: t)
    rcases piece_cases r t with ⟨h, e⟩ | ⟨_, h, h2, e⟩ | ⟨_, h, _, _, _, e⟩ | ⟨_, _, _, _, _, e⟩ | ⟨_, _, _, h, e⟩ | ⟨_, _, h, _, e⟩ | ⟨_, _, _, _, e⟩ <;> rw [e] <;> simp only
    · refine ⟨hb, fun _ => ?_, by omega, by omega⟩
      rw [run_cons _ h]; omega
    · refine ⟨hl, fun _ => ?_, by omega, by omega⟩
      rw [run_cons _ (by subst h; rfl)]; omega
    · have := kindOf_pos ((r :: t).take (run inWord (r :: t)))
      refine ⟨hw, fun _ => ?_, by omega, by omega⟩
      rw [run_cons _ (letter_inWord h)]; omega
    · exact ⟨by omega, fun h => absurd rfl h, by omega, fun _ => trivial⟩
    · obtain ⟨u, rfl⟩ := headD_ne h (by omega)
      exact ⟨by simp, by omega, by omega, by omega⟩
    · have := sign_low h
      exact ⟨by simp, by omega, by omega, by omega⟩
    · exact ⟨by omega, fun h => absurd rfl h, by omega, fun _ => trivial⟩
theorem piece_le (q : List Nat) : (piece q).2 ≤ q.length := (piece_size q).1
theorem piece_pos {q : List Nat} (h : (piece q).1 ≠ 0) : 1 ≤ (piece q).2 := (piece_size q).2.1 h

structure Tok where
  kind : Int
  text : List Nat
  at' : Nat × Nat

def lex (p : Nat × Nat) (q : List Nat) : List Tok × (Nat × Nat) × Bool :=
  if _h : q = [] then ([], p, true)
  else if (piece q).1 = 0 then ([], p, false)
  else
    let r := lex (behinds p (q.take (max (piece q).2 1))) (q.drop (max (piece q).2 1))
    if (piece q).1 = -1 then r else (⟨(piece q).1, q.take (piece q).2, p⟩ :: r.1, r.2)
termination_by q.length
decreasing_by
  rw [List.length_drop]
  have := List.length_pos_iff.2 _h
  omega

theorem lex_nil (p : Nat × Nat) : lex p [] = ([], p, true) := by rw [lex]; rfl
theorem lex_bad {p : Nat × Nat} {q : List Nat} (h : q ≠ []) (h0 : (piece q).1 = 0) : lex p q = ([], p, false) := by
  rw [lex, dif_neg h, if_pos h0]
theorem lex_gap {p : Nat × Nat} {q : List Nat} (h : q ≠ []) (h0 : (piece q).1 = -1) : lex p q = lex (behinds p (q.take (piece q).2)) (q.drop (piece q).2) := by
  have hm : max (piece q).2 1 = (piece q).2 := Nat.max_eq_left (piece_pos (by omega))
  conv => lhs; rw [lex]
  rw [dif_neg h, if_neg (by omega), if_pos h0, hm]
theorem lex_tok {p : Nat × Nat} {q : List Nat} (h : q ≠ []) (h0 : (piece q).1 ≠ 0) (h1 : (piece q).1 ≠ -1) :
    lex p q = (⟨(piece q).1, q.take (piece q).2, p⟩ :: (lex (behinds p (q.take (piece q).2)) (q.drop (piece q).2)).1, (lex (behinds p (q.take (piece q).2)) (q.drop (piece q).2)).2) := by
  have hm : max (piece q).2 1 = (piece q).2 := Nat.max_eq_left (piece_pos h0)
  conv => lhs; rw [lex]
  rw [dif_neg h, if_neg h0, if_neg h1, hm]

def ans : Option (List Nat) → Int × (Nat × Nat) × List Tok
  | none => (4, (0, 0), [])
  | some q => if 3000 < q.length then (3, (0, 0), []) else if (lex (1, 1) q).2.2 then (0, (lex (1, 1) q).2.1, (lex (1, 1) q).1) else (10, (lex (1, 1) q).2.1, [])
theorem ans_long {q : List Nat} (h : 3000 < q.length) : ans (some q) = (3, (0, 0), []) := by rw [ans, if_pos h]
theorem ans_ok {q : List Nat} (h : ¬ 3000 < q.length) (h2 : (lex (1, 1) q).2.2 = true) : ans (some q) = (0, (lex (1, 1) q).2.1, (lex (1, 1) q).1) := by rw [ans, if_neg h, if_pos h2]
theorem ans_bad {q : List Nat} (h : ¬ 3000 < q.length) (h2 : (lex (1, 1) q).2.2 = false) : ans (some q) = (10, (lex (1, 1) q).2.1, []) := by
  rw [ans, if_neg h, if_neg (by rw [h2]; simp)]

theorem behind_le (p : Nat × Nat) (r : Nat) : (behind p r).1 ≤ p.1 + 1 ∧ (behind p r).2 ≤ p.2 + 1 := by
  unfold behind; split <;> constructor <;> simp only <;> omega
theorem piece_low {q : List Nat} (h0 : (piece q).1 ≠ -1) : ∀ r ∈ q.take (piece q).2, r < 128 := by
  cases q with
  | nil => simp
  | cons r t =>
    rcases piece_cases r t with ⟨_, e⟩ | ⟨_, _, _, e⟩ | ⟨_, _, _, _, _, e⟩ | ⟨_, _, _, _, _, e⟩ | ⟨_, _, h, h2, e⟩ | ⟨_, _, h, _, e⟩ | ⟨_, _, _, _, e⟩ <;> rw [e] at h0 ⊢ <;> simp only at h0 ⊢
    · exact absurd rfl h0
    · exact absurd rfl h0
    · exact fun x hx => inWord_low (run_all x hx)
    · simp
    · obtain ⟨u, rfl⟩ := headD_ne h2 (by omega)
      subst h; simp
    · have := sign_low h
      simp; omega
    · simp
end Go.Proofs.YtopncohhagebbaaGreatDoor.Sg

namespace Go.Proofs.YtopncohhagebbaaGreatDoor.Sg
open Go

def kt (l : List Tok) : List (Int × List Nat) := l.map fun t => (t.kind, t.text)
theorem kt_len (l : List Tok) : (kt l).length = l.length := List.length_map ..
def gaps : List (List Nat) := [[10], [32, 12288], [47, 47, 120, 10], [9, 13]]
def again (l : List Tok) : List Nat := l.flatMap fun t => t.text ++ [32]
theorem again_cons (t : Tok) (l : List Tok) : again (t :: l) = t.text ++ 32 :: again l := by simp [again]
theorem again_mem : ∀ {l : List Tok} {t : Tok}, t ∈ l → t.text.length + 1 ≤ (again l).length
  | [], _, h => by simp at h
  | u :: l, t, h => by
    rw [again_cons, List.length_append, List.length_cons]
    rcases List.mem_cons.1 h with rfl | h
    · omega
    · have := again_mem h
      omega
theorem again_len : ∀ l : List Tok, l.length ≤ (again l).length
  | [] => Nat.zero_le _
  | t :: l => by
    rw [again_cons, List.length_append, List.length_cons, List.length_cons]
    have := again_len l
    omega
theorem run_exact {f : Nat → Bool} : ∀ {a : List Nat} (y : Nat) (u : List Nat), (∀ x ∈ a, f x = true) → f y = false → run f (a ++ y :: u) = a.length
  | [], y, u, _, hy => run_stop _ hy
  | x :: a, y, u, h, hy => by
    rw [List.cons_append, run_cons _ (h x (by simp)), run_exact y u (fun z hz => h z (by simp [hz])) hy, List.length_cons]
def Tells (t : Tok) : Prop := 1 ≤ t.text.length ∧ t.kind ≠ 0 ∧ t.kind ≠ -1 ∧ (∀ r ∈ t.text, r < 128) ∧ ∀ u, piece (t.text ++ 32 :: u) = (t.kind, t.text.length)
theorem tells_piece {q : List Nat} (p : Nat × Nat) (h0 : (piece q).1 ≠ 0) (h1 : (piece q).1 ≠ -1) : Tells ⟨(piece q).1, q.take (piece q).2, p⟩ := by
  have hle := piece_le q
  have hlen : (q.take (piece q).2).length = (piece q).2 := by rw [List.length_take]; omega
  refine ⟨by show 1 ≤ (q.take (piece q).2).length; rw [hlen]; exact piece_pos h0, h0, h1, piece_low h1, fun u => ?_⟩
  show piece (q.take (piece q).2 ++ 32 :: u) = ((piece q).1, (q.take (piece q).2).length)
  rw [hlen]
  cases q with
  | nil => exact absurd rfl h0
  | cons r t =>
    rcases piece_cases r t with ⟨_, e⟩ | ⟨_, _, _, e⟩ | ⟨hb, hl, h47, h45, h16, e⟩ | ⟨_, _, _, _, _, e⟩ | ⟨hb, hl, h, h2, e⟩ | ⟨hb, hl, h, h2, e⟩ | ⟨_, _, _, _, e⟩
    · rw [e] at h1; exact absurd rfl h1
    · rw [e] at h1; exact absurd rfl h1
    · rw [e] at hlen ⊢
      have hr := run_exact (f := inWord) (a := (r :: t).take (run inWord (r :: t))) 32 u run_all (by decide)
      rw [hlen] at hr
      have hwo : word ((r :: t).take (run inWord (r :: t)) ++ 32 :: u) = (kindOf ((r :: t).take (run inWord (r :: t))), run inWord (r :: t)) := by
        rw [word, hr, if_neg (by simp only; omega), List.take_append_of_le_length (by rw [hlen]; exact Nat.le_refl _), List.take_take, Nat.min_self]
      have hcons : ∃ x, (r :: t).take (run inWord (r :: t)) = r :: x := by
        rw [run_cons _ (letter_inWord hl), List.take_succ_cons]; exact ⟨_, rfl⟩
      obtain ⟨x, hx⟩ := hcons
      have hpw : ∀ v, piece (r :: v) = word (r :: v) := fun v => by
        rw [piece, hb, if_neg (by simp), if_neg (fun h => h47 h.1), if_pos hl]
      refine Eq.trans ?_ hwo
      rw [hx, List.cons_append]
      exact hpw _
    · rw [e] at h0; exact absurd rfl h0
    · obtain ⟨v, rfl⟩ := headD_ne h2 (by omega)
      subst h; rw [e]; rfl
    · rw [e]
      have hs := sign_low h
      show piece (r :: 32 :: u) = _
      rw [piece, hb, if_neg (by simp), if_neg (fun hh => hs.2.2.2.1 hh.1), hl, if_neg (by simp), if_neg (by simp), h, if_pos rfl]
    · rw [e] at h0; exact absurd rfl h0
theorem lex_tells : ∀ (k : Nat) (q : List Nat) (p : Nat × Nat), q.length ≤ k → (∀ t ∈ (lex p q).1, Tells t) ∧ (again (lex p q).1).length ≤ 2 * q.length
  | k, q, p, hk => by
    by_cases h : q = []
    · subst h; rw [lex_nil]; simp [again]
    · by_cases h0 : (piece q).1 = 0
      · rw [lex_bad h h0]; simp [again]
      · have h1 := piece_pos h0
        have hle := piece_le q
        have hl : (q.drop (piece q).2).length = q.length - (piece q).2 := List.length_drop ..
        have hpos := List.length_pos_iff.2 h
        obtain ⟨k, rfl⟩ : ∃ j, k = j + 1 := ⟨k - 1, by omega⟩
        have ih := lex_tells k (q.drop (piece q).2) (behinds p (q.take (piece q).2)) (by omega)
        by_cases hg : (piece q).1 = -1
        · rw [lex_gap h hg]
          exact ⟨ih.1, by have := ih.2; omega⟩
        · rw [lex_tok h h0 hg]
          refine ⟨fun t ht => ?_, ?_⟩
          · rcases List.mem_cons.1 ht with rfl | ht
            · exact tells_piece p h0 hg
            · exact ih.1 t ht
          · rw [again_cons, List.length_append, List.length_cons, List.length_take]
            have := ih.2
            omega
end Go.Proofs.YtopncohhagebbaaGreatDoor.Sg

namespace Go.Proofs.YtopncohhagebbaaGreatDoor
open Go.RowKit
namespace Gr
open Tr (Nd none0)
open Sg (Tok kt)

def txt (l : List Nat) : ByteArray := ⟨(l.map Nat.toUInt8).toArray⟩
abbrev K := Int × List Nat
structure St where
  rest : List K
  err : Nat
def headK : List K → Int
  | [] => 0
  | t :: _ => t.1
def next (s : St) : Int := if s.err = 0 then headK s.rest else 0
def tl (s : St) : St := ⟨s.rest.tail, s.err⟩
def fail (s : St) (e : Nat) : St := if s.err = 0 then ⟨s.rest, e⟩ else s
def need (s : St) (k : Int) : St := if next s = k then tl s else fail s 11
def headT : List K → ByteArray
  | [] => none0
  | t :: _ => txt t.2
def word (s : St) : ByteArray × St := if next s = 1 then (headT s.rest, tl s) else (none0, fail s 11)
section
variable {α : Type}
def each (one : St → α × St) (k : Int) : Nat → St → List α × St
  | 0, s => ([], s)
  | f + 1, s => if next s = k then ((one (tl s)).1 :: (each one k f (one (tl s)).2).1, (each one k f (one (tl s)).2).2) else ([], s)
def eachs (one : St → α × St) (k : Int) (s : St) : List α × St := each one k s.rest.length s
def list (one : St → α × St) (k : Int) (s : St) : List α × St := ((one s).1 :: (eachs one k (one s).2).1, (eachs one k (one s).2).2)
end
def joined (k : Int) : List Nd → Nd
  | [n] => n
  | l => .mk k none0 none0 l
abbrev P := St → Nd × St
def atomOf (br : P) (s : St) : Nd × St :=
  if next s = 4 then (.mk 1 none0 none0 [], tl s)
  else if next s = 40 then br s
  else if next (word s).2 = 5 then (.mk 3 (word s).1 (word (tl (word s).2)).1 [], (word (tl (word s).2)).2)
  else (.mk 2 (word s).1 none0 [], (word s).2)
def lessOf (br : P) (s : St) : Nd × St :=
  if next (atomOf br s).2 = 45 then (.mk 6 none0 none0 [(atomOf br s).1, (atomOf br (tl (atomOf br s).2)).1], (atomOf br (tl (atomOf br s).2)).2) else atomOf br s
def meetOf (br : P) (s : St) : Nd × St := (joined 5 (list (lessOf br) 38 s).1, (list (lessOf br) 38 s).2)
def unionOf (br : P) (s : St) : Nd × St := (joined 4 (list (meetOf br) 124 s).1, (list (meetOf br) 124 s).2)
def brk : Nat → P
  | 0, s => (.mk 0 none0 none0 [], fail s 12)
  | d + 1, s => ((unionOf (brk d) (need s 40)).1, need (unionOf (brk d) (need s 40)).2 41)
structure Al where
  ty : ByteArray
  rel : ByteArray
  wild : Bool
structure Rl where
  name : ByteArray
  allow : List Al
  expr : Nd
structure Ty where
  name : ByteArray
  rels : List Rl
def allow (s : St) : Al × St :=
  if next (word s).2 = 35 then (⟨(word s).1, (word (tl (word s).2)).1, false⟩, (word (tl (word s).2)).2)
  else if next (word s).2 = 58 then (⟨(word s).1, none0, true⟩, need (tl (word s).2) 42)
  else (⟨(word s).1, none0, false⟩, (word s).2)
def allows (s : St) : List Al × St :=
  if next s = 91 then ((list allow 44 (tl s)).1, need (list allow 44 (tl s)).2 93) else ([], s)
def union : P := unionOf (brk 8)
def rel (s : St) : Rl × St :=
  (⟨(word s).1, (allows (word s).2).1, (union (need (allows (word s).2).2 61)).1⟩, need (union (need (allows (word s).2).2 61)).2 59)
def typ (s : St) : Ty × St :=
  (⟨(word s).1, (eachs rel 3 (need (word s).2 123)).1⟩, need (eachs rel 3 (need (word s).2 123)).2 125)
def config (s : St) : List Ty × St := eachs typ 2 s

def fin (s : St) : St := if next s ≠ 0 then fail s 11 else s
def place (l : List Tok) (s : St) (e : Nat × Nat) : Nat × Nat := match l.drop (l.length - s.rest.length) with
  | [] => e
  | t :: _ => t.at'
def done {α : Type} (z : α) (l : List Tok) (e : Nat × Nat) (r : α × St) : α × (Nat × Nat) × Nat :=
  if (fin r.2).err = 0 then (r.1, (0, 0), 0) else (z, place l (fin r.2) e, (fin r.2).err)
def answer {α : Type} (z : α) (p : St → α × St) (a : Int × (Nat × Nat) × List Tok) : α × (Nat × Nat) × Int :=
  if a.1 = 0 then ((done z a.2.2 a.2.1 (p ⟨kt a.2.2, 0⟩)).1, (done z a.2.2 a.2.1 (p ⟨kt a.2.2, 0⟩)).2.1, ((done z a.2.2 a.2.1 (p ⟨kt a.2.2, 0⟩)).2.2 : Int)) else (z, a.2.1, a.1)
def zeroN : Nd := .mk 0 none0 none0 []
def exprA (s : ByteArray) : Nd × (Nat × Nat) × Int := answer zeroN union (Sg.ans (Gly.runes s.data.toList))
def parseA (s : ByteArray) : List Ty × (Nat × Nat) × Int := answer [] config (Sg.ans (Gly.runes s.data.toList))

structure Fine {α : Type} (p : St → α × St) : Prop where
  suf : ∀ s, (p s).2.rest <:+ s.rest
  err : ∀ s, s.err ≠ 0 → (p s).2 = s
theorem next_bad {s : St} (h : s.err ≠ 0) : next s = 0 := if_neg h
theorem next_good {s : St} (h : next s ≠ 0) : s.err = 0 ∧ ∃ t r, s.rest = t :: r ∧ t.1 = next s := by
  by_cases he : s.err = 0
  · refine ⟨he, ?_⟩
    rw [next, if_pos he] at h ⊢
    cases hr : s.rest with
    | nil => rw [hr] at h; exact absurd rfl h
    | cons t r => exact ⟨t, r, rfl, rfl⟩
  · exact absurd (next_bad he) h
theorem fail_bad {s : St} (h : s.err ≠ 0) (e : Nat) : fail s e = s := if_neg h
theorem need_bad {s : St} (h : s.err ≠ 0) {k : Int} (hk : k ≠ 0) : need s k = s := by rw [need, next_bad h, if_neg (fun e => hk e.symm), fail_bad h]
theorem fail_rest (s : St) (e : Nat) : (fail s e).rest = s.rest := by rw [fail]; split <;> rfl
theorem need_suf (s : St) (k : Int) : (need s k).rest <:+ s.rest := by
  rw [need]; split
  · exact List.tail_suffix _
  · rw [fail_rest]; exact List.suffix_refl _
theorem word_fine : Fine word := ⟨fun s => by
  rw [word]; split
  · exact List.tail_suffix _
  · rw [fail_rest]; exact List.suffix_refl _, fun s h => by rw [word, next_bad h, if_neg (by decide)]; exact fail_bad h _⟩
theorem tl_suf (s : St) : (tl s).rest <:+ s.rest := List.tail_suffix _
theorem tl_len {s : St} (h : next s ≠ 0) : (tl s).rest.length + 1 = s.rest.length := by
  obtain ⟨-, t, r, hr, -⟩ := next_good h
  rw [tl, hr]; rfl
section
variable {α : Type} {one : St → α × St} {k : Int}
theorem each_suf (hf : Fine one) : ∀ (f : Nat) (s : St), (each one k f s).2.rest <:+ s.rest
  | 0, s => List.suffix_refl _
  | f + 1, s => by
    rw [each]
    split
    · exact (each_suf hf f _).trans ((hf.suf _).trans (tl_suf s))
    · exact List.suffix_refl _
theorem each_more (hf : Fine one) (hk : k ≠ 0) : ∀ (f g : Nat) (s : St), s.rest.length ≤ f → s.rest.length ≤ g → each one k f s = each one k g s
  | 0, 0, s, _, _ => rfl
  | 0, g + 1, s, h, _ => by
    have h0 : next s ≠ k := fun e => by
      have := tl_len (s := s) (by rw [e]; exact hk)
      omega
    rw [each, each, if_neg h0]
  | f + 1, 0, s, _, h => by
    have h0 : next s ≠ k := fun e => by
      have := tl_len (s := s) (by rw [e]; exact hk)
      omega
    rw [each, each, if_neg h0]
  | f + 1, g + 1, s, h1, h2 => by
    rw [each, each]
    by_cases hn : next s = k
    · have h3 := tl_len (s := s) (by rw [hn]; exact hk)
      have h4 := (hf.suf (tl s)).length_le
      rw [if_pos hn, if_pos hn, each_more hf hk f g _ (by omega) (by omega)]
    · rw [if_neg hn, if_neg hn]
theorem eachs_on (hf : Fine one) (hk : k ≠ 0) {s : St} (h : next s = k) : eachs one k s = ((one (tl s)).1 :: (eachs one k (one (tl s)).2).1, (eachs one k (one (tl s)).2).2) := by
  have h3 := tl_len (s := s) (by rw [h]; exact hk)
  have h4 := (hf.suf (tl s)).length_le
  rw [eachs, ← h3, each, if_pos h, each_more hf hk (tl s).rest.length (one (tl s)).2.rest.length _ (by omega) (Nat.le_refl _)]
  rfl
theorem eachs_off {s : St} (h : next s ≠ k) : eachs one k s = ([], s) := by
  rw [eachs]
  cases s.rest.length with
  | zero => rfl
  | succ n => rw [each, if_neg h]
theorem eachs_fine (hf : Fine one) (hk : k ≠ 0) : Fine (eachs one k) := ⟨fun s => each_suf hf _ s, fun s h => by rw [eachs_off (by rw [next_bad h]; exact fun e => hk e.symm)]⟩
theorem list_fine (hf : Fine one) (hk : k ≠ 0) : Fine (list one k) := ⟨fun s => ((eachs_fine hf hk).suf _).trans (hf.suf s), fun s h => by
  have h1 := hf.err s h
  rw [list, h1]
  exact (eachs_fine hf hk).err s h⟩
theorem each_len (hf : Fine one) (hk : k ≠ 0) : ∀ (f : Nat) (s : St), (each one k f s).1.length + (each one k f s).2.rest.length ≤ s.rest.length
  | 0, s => by rw [each]; simp
  | f + 1, s => by
    rw [each]
    by_cases hn : next s = k
    · have h3 := tl_len (s := s) (by rw [hn]; exact hk)
      have h4 := (hf.suf (tl s)).length_le
      have h5 := each_len hf hk f (one (tl s)).2
      rw [if_pos hn]
      simp only [List.length_cons]
      omega
    · rw [if_neg hn]; simp
end
theorem atom_fine {br : P} (h : Fine br) : Fine (atomOf br) := ⟨fun s => by
  rw [atomOf]
  split
  · exact tl_suf s
  · split
    · exact h.suf s
    · split
      · exact (word_fine.suf _).trans ((tl_suf _).trans (word_fine.suf s))
      · exact word_fine.suf s, fun s he => by
  have hw := word_fine.err s he
  rw [atomOf, next_bad he, if_neg (by decide), if_neg (by decide), hw, next_bad he, if_neg (by decide)]⟩
theorem less_fine {br : P} (h : Fine br) : Fine (lessOf br) := ⟨fun s => by
  rw [lessOf]
  split
  · exact ((atom_fine h).suf _).trans ((tl_suf _).trans ((atom_fine h).suf s))
  · exact (atom_fine h).suf s, fun s he => by
  have hw := (atom_fine h).err s he
  rw [lessOf, hw, next_bad he, if_neg (by decide), hw]⟩
theorem meet_fine {br : P} (h : Fine br) : Fine (meetOf br) := ⟨(list_fine (less_fine h) (by decide)).suf, (list_fine (less_fine h) (by decide)).err⟩
theorem union_fine {br : P} (h : Fine br) : Fine (unionOf br) := ⟨(list_fine (meet_fine h) (by decide)).suf, (list_fine (meet_fine h) (by decide)).err⟩
theorem need_fine {α : Type} {p : St → α × St} (hp : Fine p) {k : Int} (hk : k ≠ 0) {β : Type} (g : St → β) : Fine (fun s => (g s, need (p s).2 k)) := ⟨fun s => (need_suf _ _).trans (hp.suf s), fun s he => by
  show need (p s).2 k = s
  rw [hp.err s he, need_bad he hk]⟩
theorem after_fine {α : Type} {p : St → α × St} (hp : Fine p) {k : Int} (hk : k ≠ 0) : Fine (fun s => p (need s k)) := ⟨fun s => (hp.suf _).trans (need_suf s k), fun s he => by
  show (p (need s k)).2 = s
  rw [need_bad he hk, hp.err s he]⟩
theorem brk_fine : ∀ d, Fine (brk d)
  | 0 => ⟨fun s => by rw [brk]; simp only; rw [fail_rest]; exact List.suffix_refl _, fun s he => fail_bad he _⟩
  | d + 1 => need_fine (after_fine (union_fine (brk_fine d)) (k := 40) (by decide)) (k := 41) (by decide) _
theorem uni_fine : Fine union := union_fine (brk_fine 8)
theorem allow_fine : Fine allow := ⟨fun s => by
  rw [allow]
  split
  · exact (word_fine.suf _).trans ((tl_suf _).trans (word_fine.suf s))
  · split
    · exact (need_suf _ _).trans ((tl_suf _).trans (word_fine.suf s))
    · exact word_fine.suf s, fun s he => by
  have hw := word_fine.err s he
  rw [allow, hw, next_bad he, if_neg (by decide), if_neg (by decide)]⟩
theorem allows_fine : Fine allows := ⟨fun s => by
  rw [allows]
  split
  · exact (need_suf _ _).trans (((list_fine allow_fine (by decide)).suf _).trans (tl_suf s))
  · exact List.suffix_refl _, fun s he => by rw [allows, next_bad he, if_neg (by decide)]⟩
theorem rel_fine : Fine rel := ⟨fun s => by
  have h1 := word_fine.suf s
  have h2 := allows_fine.suf (word s).2
  have h3 := need_suf (allows (word s).2).2 61
  have h4 := uni_fine.suf (need (allows (word s).2).2 61)
  have h5 := need_suf (union (need (allows (word s).2).2 61)).2 59
  rw [rel]
  exact h5.trans (h4.trans (h3.trans (h2.trans h1))), fun s he => by
  rw [rel]
  simp only
  rw [word_fine.err s he, allows_fine.err s he, need_bad he (by decide), uni_fine.err s he, need_bad he (by decide)]⟩
theorem typ_fine : Fine typ := ⟨fun s => by
  have h1 := word_fine.suf s
  have h2 := need_suf (word s).2 123
  have h3 := (eachs_fine rel_fine (k := 3) (by decide)).suf (need (word s).2 123)
  have h4 := need_suf (eachs rel 3 (need (word s).2 123)).2 125
  rw [typ]
  exact h4.trans (h3.trans (h2.trans h1)), fun s he => by
  rw [typ]
  simp only
  rw [word_fine.err s he, need_bad he (by decide), (eachs_fine rel_fine (by decide)).err s he, need_bad he (by decide)]⟩
end Gr
end Go.Proofs.YtopncohhagebbaaGreatDoor

namespace Go.Proofs.YtopncohhagebbaaGreatDoor.Sg
open Go

def Inv (q u : List Nat) (p : Nat × Nat) (k : Nat) (acc : List Tok) : Prop :=
  (acc ++ (lex (behinds p (u.take k)) (u.drop k)).1, (lex (behinds p (u.take k)) (u.drop k)).2) = lex (1, 1) q
theorem inv_start (q : List Nat) : Inv q q (1, 1) 0 [] := by simp [Inv, behinds_nil]
theorem inv_next {q t : List Nat} {r k : Nat} {p : Nat × Nat} {acc : List Tok} (h : Inv q (r :: t) p (k + 1) acc) : Inv q t (behind p r) k acc := by
  rw [Inv, List.take_succ_cons, List.drop_succ_cons, behinds_cons] at h
  exact h
theorem inv_gap {q u : List Nat} {p : Nat × Nat} {acc : List Tok} (h : Inv q u p 0 acc) (hu : u ≠ []) (h1 : (piece u).1 = -1) : Inv q u p (piece u).2 acc := by
  rw [Inv, List.take_zero, List.drop_zero, behinds_nil, lex_gap hu h1] at h
  exact h
theorem inv_tok {q u : List Nat} {p : Nat × Nat} {acc : List Tok} (h : Inv q u p 0 acc) (hu : u ≠ []) (h0 : (piece u).1 ≠ 0) (h1 : (piece u).1 ≠ -1) :
    Inv q u p (piece u).2 (acc ++ [⟨(piece u).1, u.take (piece u).2, p⟩]) := by
  rw [Inv, List.take_zero, List.drop_zero, behinds_nil, lex_tok hu h0 h1] at h
  rw [Inv, List.append_assoc]
  exact h
theorem inv_end {q : List Nat} {p : Nat × Nat} {k : Nat} {acc : List Tok} (h : Inv q [] p k acc) : lex (1, 1) q = (acc, p, true) := by
  rw [Inv, List.take_nil, List.drop_nil, behinds_nil, lex_nil] at h
  rw [← h]; simp
theorem inv_bad {q u : List Nat} {p : Nat × Nat} {acc : List Tok} (h : Inv q u p 0 acc) (hu : u ≠ []) (h0 : (piece u).1 = 0) : lex (1, 1) q = (acc, p, false) := by
  rw [Inv, List.take_zero, List.drop_zero, behinds_nil, lex_bad hu h0] at h
  rw [← h]; simp
def goes (q : List Nat) (a j r : Nat) : Bool := if a + j < q.length then (if j = 0 then letter r else inWord (q.getD (a + j) 0)) else false
def Wd (q : List Nat) (a j r : Nat) : Prop := j = 0 ∨ (letter r = true ∧ 1 ≤ j ∧ j + run inWord (q.drop (a + j)) = run inWord (q.drop a))
end Go.Proofs.YtopncohhagebbaaGreatDoor.Sg

namespace Go.Proofs.YtopncohhagebbaaGreatDoor
open Go.RowKit
namespace Gr
open Tr (Nd none0 good goods size sizes)
open Sg (Tok kt)

def Words (l : List K) : Prop := ∀ t ∈ l, t.1 = 1 → Tr.word (txt t.2) = true
theorem Words.suf {l m : List K} (h : Words l) (hs : m <:+ l) : Words m := fun t ht => h t (hs.subset ht)
structure Reads {α : Type} (G : α → Prop) (sz : α → Nat) (p : St → α × St) : Prop where
  fine : Fine p
  good : ∀ s, Words s.rest → (p s).2.err = 0 → s.err = 0 ∧ G (p s).1 ∧ sz (p s).1 + (p s).2.rest.length ≤ s.rest.length
section
variable {α : Type} {G : α → Prop} {sz : α → Nat} {one : St → α × St} {k : Int}
def tot (sz : α → Nat) : List α → Nat
  | [] => 0
  | a :: l => 1 + sz a + tot sz l
end
abbrev NG (n : Nd) : Prop := good n = true
abbrev Nice (p : P) : Prop := Reads NG size p
def AG (a : Al) : Prop := Tr.word a.ty = true ∧ (a.rel = none0 ∨ a.wild = false ∧ Tr.word a.rel = true)
def RG (r : Rl) : Prop := Tr.word r.name = true ∧ good r.expr = true ∧ ∀ a ∈ r.allow, AG a
def TG (t : Ty) : Prop := Tr.word t.name = true ∧ ∀ r ∈ t.rels, RG r
end Gr
end Go.Proofs.YtopncohhagebbaaGreatDoor

namespace Go.Proofs.YtopncohhagebbaaGreatDoor
open Go.RowKit
namespace Gr
open Tr (Nd none0)
open Sg (Tok kt)

def Errs {α : Type} (p : St → α × St) : Prop := ∀ s, (p s).2.err = s.err ∨ (p s).2.err = 11 ∨ (p s).2.err = 12
section
variable {α β : Type}
theorem err_of {s : St} {a : Nat} (h : s.err = a ∨ s.err = 11 ∨ s.err = 12) {n : Nat} (hn : n = s.err ∨ n = 11 ∨ n = 12) : n = a ∨ n = 11 ∨ n = 12 := by omega
theorem fail_err' (s : St) (e : Nat) (he : e = 11 ∨ e = 12) : (fail s e).err = s.err ∨ (fail s e).err = 11 ∨ (fail s e).err = 12 := by
  rw [fail]; split
  · exact .inr he
  · exact .inl rfl
theorem need_err (s : St) (k : Int) : (need s k).err = s.err ∨ (need s k).err = 11 ∨ (need s k).err = 12 := by
  rw [need]; split
  · exact .inl rfl
  · exact fail_err' s 11 (.inl rfl)
theorem word_errs : Errs word := fun s => by
  rw [word]; split
  · exact .inl rfl
  · exact fail_err' s 11 (.inl rfl)
theorem Errs.tl {p : St → α × St} (h : Errs p) (s : St) : (p (Gr.tl s)).2.err = s.err ∨ (p (Gr.tl s)).2.err = 11 ∨ (p (Gr.tl s)).2.err = 12 := h (Gr.tl s)
theorem each_errs {one : St → α × St} (h : Errs one) (k : Int) : ∀ f, Errs (each one k f)
  | 0, s => .inl rfl
  | f + 1, s => by
    rw [each]; split
    · exact err_of (h.tl s) (each_errs h k f _)
    · exact .inl rfl
theorem eachs_errs {one : St → α × St} (h : Errs one) (k : Int) : Errs (eachs one k) := fun s => each_errs h k _ s
theorem list_errs {one : St → α × St} (h : Errs one) (k : Int) : Errs (list one k) := fun s => err_of (h s) (eachs_errs h k _)
end
theorem atom_errs {br : P} (h : Errs br) : Errs (atomOf br) := fun s => by
  rw [atomOf]; split
  · exact .inl rfl
  · split
    · exact h s
    · split
      · exact err_of (word_errs s) (word_errs.tl _)
      · exact word_errs s
theorem less_errs {br : P} (h : Errs br) : Errs (lessOf br) := fun s => by
  rw [lessOf]; split
  · exact err_of (atom_errs h s) ((atom_errs h).tl _)
  · exact atom_errs h s
theorem meet_errs {br : P} (h : Errs br) : Errs (meetOf br) := fun s => list_errs (less_errs h) 38 s
theorem union_errs {br : P} (h : Errs br) : Errs (unionOf br) := fun s => list_errs (meet_errs h) 124 s
theorem brk_errs : ∀ d, Errs (brk d)
  | 0 => fun s => fail_err' s 12 (.inr rfl)
  | d + 1 => fun s => by
    rw [brk]
    exact err_of (err_of (need_err s 40) (union_errs (brk_errs d) _)) (need_err _ 41)
theorem uni_errs : Errs union := union_errs (brk_errs 8)
theorem allow_errs : Errs allow := fun s => by
  rw [allow]; split
  · exact err_of (word_errs s) (word_errs.tl _)
  · split
    · exact err_of (word_errs s) (need_err (Gr.tl (word s).2) 42)
    · exact word_errs s
theorem allows_errs : Errs allows := fun s => by
  rw [allows]; split
  · exact err_of ((list_errs allow_errs 44).tl s) (need_err _ 93)
  · exact .inl rfl
theorem rel_errs : Errs rel := fun s => by
  have h1 := word_errs s
  have h2 := allows_errs (word s).2
  have h3 := need_err (allows (word s).2).2 61
  have h4 := uni_errs (need (allows (word s).2).2 61)
  have h5 := need_err (union (need (allows (word s).2).2 61)).2 59
  rw [rel]
  simp only
  exact err_of (err_of (err_of (err_of h1 h2) h3) h4) h5
theorem typ_errs : Errs typ := fun s => by
  have h1 := word_errs s
  have h2 := need_err (word s).2 123
  have h3 := eachs_errs rel_errs 3 (need (word s).2 123)
  have h4 := need_err (eachs rel 3 (need (word s).2 123)).2 125
  rw [typ]
  simp only
  exact err_of (err_of (err_of h1 h2) h3) h4
theorem config_errs : Errs config := eachs_errs typ_errs 2
theorem fin_errs {α : Type} {p : St → α × St} (h : Errs p) (l : List K) : (fin (p ⟨l, 0⟩).2).err = 0 ∨ (fin (p ⟨l, 0⟩).2).err = 11 ∨ (fin (p ⟨l, 0⟩).2).err = 12 := by
  have h1 := h ⟨l, 0⟩
  rw [fin]; split
  · exact err_of h1 (fail_err' _ 11 (.inl rfl))
  · exact h1

theorem ans_toks {o : Option (List Nat)} (h : (Sg.ans o).1 = 0) : ∃ q : List Nat, o = some q ∧ q.length ≤ 3000 ∧ (Sg.lex (1, 1) q).2.2 = true ∧ Sg.ans o = (0, (Sg.lex (1, 1) q).2.1, (Sg.lex (1, 1) q).1) ∧
    (Sg.lex (1, 1) q).1.length ≤ 6000 ∧ (∀ t ∈ (Sg.lex (1, 1) q).1, t.text.length ≤ 6000 ∧ t.kind ≠ 0) := by
  cases o with
  | none => exact absurd h (by decide)
  | some q =>
    by_cases hl : 3000 < q.length
    · rw [Sg.ans_long hl] at h; exact absurd h (by decide)
    · cases h2 : (Sg.lex (1, 1) q).2.2 with
      | true =>
        obtain ⟨h3, h4⟩ := Sg.lex_tells q.length q (1, 1) (Nat.le_refl _)
        refine ⟨q, rfl, by omega, h2, Sg.ans_ok hl h2, ?_, fun t ht => ⟨?_, (h3 t ht).2.1⟩⟩
        · have := Sg.again_len (Sg.lex (1, 1) q).1
          omega
        · have := Sg.again_mem ht
          omega
      | false => rw [Sg.ans_bad hl h2] at h; simp at h
end Gr
end Go.Proofs.YtopncohhagebbaaGreatDoor

namespace Go.Proofs.YtopncohhagebbaaGreatDoor
open Go.RowKit
namespace Gr
open Tr (Nd none0)
open Sg (Tok kt piece behinds lex)

def lexF : Nat → Nat × Nat → List Nat → List Tok × (Nat × Nat) × Bool
  | 0, p, _ => ([], p, true)
  | k + 1, p, q =>
    if q = [] then ([], p, true)
    else if (piece q).1 = 0 then ([], p, false)
    else if (piece q).1 = -1 then lexF k (behinds p (q.take (max (piece q).2 1))) (q.drop (max (piece q).2 1))
    else (⟨(piece q).1, q.take (piece q).2, p⟩ :: (lexF k (behinds p (q.take (max (piece q).2 1))) (q.drop (max (piece q).2 1))).1, (lexF k (behinds p (q.take (max (piece q).2 1))) (q.drop (max (piece q).2 1))).2)
theorem lexF_eq : ∀ (k : Nat) (p : Nat × Nat) (q : List Nat), q.length ≤ k → lex p q = lexF k p q
  | 0, p, q, h => by
    obtain rfl := List.eq_nil_of_length_eq_zero (Nat.le_zero.1 h)
    rw [Sg.lex_nil]; rfl
  | k + 1, p, q, h => by
    rw [lexF]
    by_cases hq : q = []
    · subst hq; rw [if_pos rfl, Sg.lex_nil]
    · have hl : (q.drop (max (piece q).2 1)).length ≤ k := by
        have := List.length_pos_iff.2 hq
        rw [List.length_drop]; omega
      rw [if_neg hq, lex, dif_neg hq]
      by_cases h0 : (piece q).1 = 0
      · rw [if_pos h0, if_pos h0]
      · rw [if_neg h0, if_neg h0]
        simp only
        rw [lexF_eq k _ _ hl]
def ansF (q : List Nat) : Int × (Nat × Nat) × List Tok :=
  if (lexF q.length (1, 1) q).2.2 then (0, (lexF q.length (1, 1) q).2.1, (lexF q.length (1, 1) q).1) else (10, (lexF q.length (1, 1) q).2.1, [])
theorem ansF_eq {q : List Nat} (h : q.length ≤ 3000) : Sg.ans (some q) = ansF q := by
  have e := lexF_eq q.length (1, 1) q (Nat.le_refl _)
  rw [ansF, ← e]
  cases h2 : (lex (1, 1) q).2.2 with
  | true => rw [Sg.ans_ok (by omega) h2]; rfl
  | false => rw [Sg.ans_bad (by omega) h2]; rfl
structure Told (r : Nd × (Nat × Nat) × Int) (code : Int) (pl : Nat × Nat) (k : Int) (a b : List UInt8) (n : Nat) : Prop where
  code : r.2.2 = code
  place : r.2.1 = pl
  kind : r.1.kind = k
  ta : r.1.ta.data.toList = a
  tb : r.1.tb.data.toList = b
  kids : r.1.kids.length = n
def exA : List Nat := [97, 32, 124, 32, 98, 32, 38, 32, 99, 32, 45, 32, 100]
def exB : List Nat := [97, 32, 45, 32, 98, 32, 45, 32, 99]
theorem exA_told : Told (answer zeroN union (ansF exA)) 0 (0, 0) 4 [] [] 2 := ⟨by decide +kernel, by decide +kernel, by decide +kernel, by decide +kernel, by decide +kernel, by decide +kernel⟩
theorem exA_kid : ((answer zeroN union (ansF exA)).1.kids.map Nd.kind) = [2, 5] := by decide +kernel
theorem exB_told : Told (answer zeroN union (ansF exB)) 11 (1, 7) 0 [] [] 0 := ⟨by decide +kernel, by decide +kernel, by decide +kernel, by decide +kernel, by decide +kernel, by decide +kernel⟩
def nest (k : Nat) : List Nat := List.replicate k 40 ++ [97, 45, 62, 98] ++ List.replicate k 41
instance (r : Nd × (Nat × Nat) × Int) (code : Int) (pl : Nat × Nat) (k : Int) (a b : List UInt8) (n : Nat) : Decidable (Told r code pl k a b n) :=
  decidable_of_iff (r.2.2 = code ∧ r.2.1 = pl ∧ r.1.kind = k ∧ r.1.ta.data.toList = a ∧ r.1.tb.data.toList = b ∧ r.1.kids.length = n) ⟨fun ⟨a, b, c, d, e, f⟩ => ⟨a, b, c, d, e, f⟩, fun ⟨a, b, c, d, e, f⟩ => ⟨a, b, c, d, e, f⟩⟩
end Gr
end Go.Proofs.YtopncohhagebbaaGreatDoor
