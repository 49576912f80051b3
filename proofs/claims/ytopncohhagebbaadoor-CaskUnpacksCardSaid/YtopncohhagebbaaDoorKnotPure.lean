/-
  Plain mathematics under the statements of layer 4 (knot): decimal digits, numbers and texts as bytes, tied and taken. No program is named here.
-/
import Derived.Test.YtopncohhagebbaaDoorBgA
namespace Go.Proofs.YtopncohhagebbaaDoor.Knot
open Go Gly
open Who (cut cut_some cut_none cut_of)

/-- A digit's byte. -/
def dig (n : Nat) : UInt8 := (48 + n % 10).toUInt8
theorem dig_nat (n : Nat) : (dig n).toNat = 48 + n % 10 := by
  rw [dig, Nat.toUInt8, UInt8.toNat_ofNat']
  omega

/-- All digits but the last. -/
def heads (n : Nat) : List UInt8 := if n < 10 then [] else heads (n / 10) ++ [dig (n / 10)]
termination_by n
decreasing_by omega
/-- A number's digits. -/
def digits (n : Nat) : List UInt8 := heads n ++ [dig n]

theorem heads_low {n : Nat} (h : n < 10) : heads n = [] := by rw [heads, if_pos h]
theorem heads_high {n : Nat} (h : ¬ n < 10) : heads n = digits (n / 10) := by rw [heads, if_neg h]; rfl
theorem digits_low {n : Nat} (h : n < 10) : digits n = [dig n] := by rw [digits, heads_low h]; rfl
theorem digits_high {n : Nat} (h : ¬ n < 10) : digits n = digits (n / 10) ++ [dig n] := by rw [digits, heads_high h]
theorem digits_ne (n : Nat) : digits n ≠ [] := by simp [digits]

/-- Taking the digits of n from behind: what is left, and what has been taken. -/
theorem digits_step {n m : Nat} {s : List UInt8} (h : digits n = heads m ++ s) (hm : ¬ m < 10) : digits n = heads (m / 10) ++ (dig (m / 10) :: s) := by
  rw [h, heads_high hm, digits]
  simp
theorem digits_start (n : Nat) : digits n = heads n ++ [dig n] := rfl
theorem digits_end {n m : Nat} {s : List UInt8} (h : digits n = heads m ++ s) (hm : m < 10) : digits n = s := by rw [h, heads_low hm]; rfl

theorem digits_bytes : ∀ (n : Nat), ∀ b ∈ digits n, 48 ≤ b.toNat ∧ b.toNat ≤ 57 := by
  intro n
  induction n using Nat.strongRecOn with
  | ind n ih =>
    intro b hb
    by_cases h : n < 10
    · rw [digits_low h, List.mem_singleton] at hb
      subst hb
      rw [dig_nat]; omega
    · rw [digits_high h, List.mem_append, List.mem_singleton] at hb
      rcases hb with hb | rfl
      · exact ih (n / 10) (by omega) b hb
      · rw [dig_nat]; omega
theorem no_semi (n : Nat) : (59 : UInt8) ∉ digits n := fun h => by
  have := digits_bytes n 59 h
  simp at this

/-- The number that digits tell, with what was told ahead of them. -/
def more (v : Nat) (b : UInt8) : Nat := v * 10 + (b.toNat - 48)
theorem more_eq (v : Nat) (b : UInt8) : more v b = v * 10 + (b.toNat - 48) := by unfold more; rfl
def value (v : Nat) (l : List UInt8) : Nat := l.foldl more v
theorem value_nil (v : Nat) : value v [] = v := by unfold value; rw [List.foldl_nil]
theorem value_cons (v : Nat) (b : UInt8) (l : List UInt8) : value v (b :: l) = value (more v b) l := by unfold value; rw [List.foldl_cons]
theorem value_one (v : Nat) (b : UInt8) : value v [b] = v * 10 + (b.toNat - 48) := by rw [value_cons, value_nil, more_eq]
theorem value_append : ∀ (a b : List UInt8) (v : Nat), value v (a ++ b) = value (value v a) b
  | [], _, _ => by rw [List.nil_append, value_nil]
  | x :: a, b, v => by rw [List.cons_append, value_cons, value_cons, value_append a b]
theorem value_digits : ∀ n : Nat, value 0 (digits n) = n := by
  intro n
  induction n using Nat.strongRecOn with
  | ind n ih =>
    by_cases h : n < 10
    · rw [digits_low h, value_one, dig_nat]; omega
    · rw [digits_high h, value_append, ih (n / 10) (by omega), value_one, dig_nat]; omega
theorem digits_inj {a b : Nat} (h : digits a = digits b) : a = b := by
  rw [← value_digits a, h, value_digits b]

theorem digits_len : ∀ (k n : Nat), n < 10 ^ (k + 1) → (digits n).length ≤ k + 1
  | 0, n, h => by rw [digits_low (by omega)]; simp
  | k + 1, n, h => by
    by_cases h1 : n < 10
    · rw [digits_low h1]; simp
    · rw [digits_high h1, List.length_append, List.length_singleton]
      have := digits_len k (n / 10) (by rw [Nat.pow_succ] at h; omega)
      omega
theorem digits_lead : ∀ (n : Nat), 10 ≤ n → (digits n).head? ≠ some 48 := by
  intro n
  induction n using Nat.strongRecOn with
  | ind n ih =>
    intro h
    rw [digits_high (by omega)]
    by_cases h1 : n / 10 < 10
    · rw [digits_low h1, List.singleton_append, List.head?_cons]
      intro e
      have e2 : dig (n / 10) = 48 := Option.some.inj e
      have := congrArg UInt8.toNat e2
      rw [dig_nat] at this
      simp at this
      omega
    · have := ih (n / 10) (by omega) (by omega)
      cases hd : digits (n / 10) with
      | nil => exact absurd hd (digits_ne _)
      | cons a l => rw [hd] at this; simpa using this
theorem digits_long {n : Nat} (h : 1 < (digits n).length) : 10 ≤ n := by
  refine Nat.le_of_not_lt fun hn => ?_
  rw [digits_low hn] at h
  simp at h
theorem digits_pos (n : Nat) : 1 ≤ (digits n).length := by
  cases h : digits n with
  | nil => exact absurd h (digits_ne n)
  | cons a l => simp

/-! ### tied -/
def number (n : Nat) : List UInt8 := digits n ++ [59]
def textB (s : List UInt8) : List UInt8 := number s.length ++ (s ++ [44])
def markB (y : Bool) : List UInt8 := if y then [43] else [45]

theorem number_cut (n : Nat) (x : List UInt8) : cut 59 (number n ++ x) = some (digits n, x) := by
  rw [number, List.append_assoc, List.singleton_append]
  exact cut_some _ (no_semi n)
/-- Numbers are tied apart. -/
theorem number_apart {a b : Nat} {x y : List UInt8} (h : number a ++ x = number b ++ y) : a = b ∧ x = y := by
  have h1 := number_cut a x
  rw [h, number_cut b y] at h1
  obtain ⟨e1, e2⟩ := Prod.mk.inj (Option.some.inj h1)
  exact ⟨(digits_inj e1).symm, e2.symm⟩
/-- Texts are tied apart. -/
theorem text_apart {s t x y : List UInt8} (h : textB s ++ x = textB t ++ y) : s = t ∧ x = y := by
  simp only [textB, List.append_assoc] at h
  obtain ⟨e1, e2⟩ := number_apart h
  obtain ⟨e3, e4⟩ := List.append_inj e2 e1
  exact ⟨e3, by simpa using e4⟩
theorem text_apart2 {s t x y : List UInt8} : textB s ++ textB x = textB t ++ textB y ↔ s = t ∧ x = y := by
  constructor
  · intro h
    obtain ⟨e1, e2⟩ := text_apart h
    have h2 : textB x ++ [] = textB y ++ [] := by rw [e2]
    exact ⟨e1, (text_apart h2).1⟩
  · rintro ⟨rfl, rfl⟩; rfl

theorem number_len {k n : Nat} (h : n < 10 ^ (k + 1)) : (number n).length ≤ k + 2 := by
  rw [number, List.length_append, List.length_singleton]
  have := digits_len k n h
  omega
theorem textB_len {s : List UInt8} (h : s.length < 10 ^ 9) : (textB s).length ≤ s.length + 11 := by
  rw [textB, List.length_append, List.length_append, List.length_singleton]
  have := number_len (k := 8) h
  omega

/-! ### taken -/
/-- The number at the front, of at most most, and what is behind it. -/
def takeN (l : List UInt8) (most : Int) : Option (Nat × List UInt8) :=
  match cut 59 l with
  | none => none
  | some (d, x) => if (1 ≤ d.length ∧ d.length ≤ 17) ∧ (∀ b ∈ d, 48 ≤ b.toNat ∧ b.toNat ≤ 57) ∧ ((value 0 d : Nat) : Int) ≤ most ∧ (1 < d.length → d.head? ≠ some 48) then some (value 0 d, x) else none
/-- The text at the front, of at most so many bytes, and what is behind it. -/
def takeT (l : List UInt8) (most : Int) : Option (List UInt8 × List UInt8) :=
  match takeN l most with
  | none => none
  | some (n, x) => if x[n]? = some 44 then some (x.take n, x.drop (n + 1)) else none
def takeM (l : List UInt8) : Option (Bool × List UInt8) :=
  match l with
  | 43 :: x => some (true, x)
  | 45 :: x => some (false, x)
  | _ => none

theorem take_number {n : Nat} {most : Int} (x : List UInt8) (h : n < 10 ^ 17) (hm : (n : Int) ≤ most) : takeN (number n ++ x) most = some (n, x) := by
  rw [takeN, number_cut]
  dsimp only
  rw [if_pos, value_digits]
  rw [value_digits]
  exact ⟨⟨digits_pos n, digits_len 16 n h⟩, digits_bytes n, hm, fun hl => digits_lead n (digits_long hl)⟩
theorem take_text {s : List UInt8} {most : Int} (x : List UInt8) (h : s.length < 10 ^ 17) (hm : (s.length : Int) ≤ most) : takeT (textB s ++ x) most = some (s, x) := by
  rw [textB, List.append_assoc, takeT, take_number _ h hm]
  dsimp only
  rw [List.append_assoc, if_pos (by simp)]
  simp
theorem take_mark (y : Bool) (x : List UInt8) : takeM (markB y ++ x) = some (y, x) := by cases y <;> rfl

/-! ### subjects, tuples, lists of them -/
open Bond (L3)
def three (y : L3) : List UInt8 := textB y.1 ++ (textB y.2.1 ++ textB y.2.2)
def tupleB (p : L3 × L3) : List UInt8 := three p.1 ++ three p.2
def tuplesB (l : List (L3 × L3)) : List UInt8 := number l.length ++ l.flatMap tupleB
theorem three_len {y : L3} (h1 : y.1.length < 10 ^ 9) (h2 : y.2.1.length < 10 ^ 9) (h3 : y.2.2.length < 10 ^ 9) : (three y).length ≤ y.1.length + y.2.1.length + y.2.2.length + 33 := by
  rw [three, List.length_append, List.length_append]
  have a := textB_len h1
  have b := textB_len h2
  have c := textB_len h3
  omega
theorem flat_take (l : List (L3 × L3)) (k : Nat) (hk : k < l.length) : (l.take (k + 1)).flatMap tupleB = (l.take k).flatMap tupleB ++ tupleB l[k] := by
  rw [List.take_succ_eq_append_getElem hk, List.flatMap_append, List.flatMap_cons, List.flatMap_nil, List.append_nil]
theorem flat_drop (l : List (L3 × L3)) (k : Nat) (hk : k < l.length) : (l.drop k).flatMap tupleB = tupleB l[k] ++ (l.drop (k + 1)).flatMap tupleB := by
  rw [List.drop_eq_getElem_cons hk, List.flatMap_cons]
end Go.Proofs.YtopncohhagebbaaDoor.Knot
