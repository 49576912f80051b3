/-
  Plain mathematics under Compare: the order of bytes, and that of UTF-8 texts' runes, are one.
-/
import Derived.Test.YtldfobciojmlnaaDoorClipPure
import Derived.Lib.Bytealg
namespace Go.Proofs.YtldfobciojmlnaaDoor.Gly
open Go

/-- -1, 0, 1. -/
def ints (a b : Int) : Int := if a < b then -1 else if b < a then 1 else 0
def cmpN : List Nat → List Nat → Int
  | [], [] => 0
  | [], _ :: _ => -1
  | _ :: _, [] => 1
  | a :: as, b :: bs => if a < b then -1 else if b < a then 1 else cmpN as bs

theorem cmp_anti : ∀ a b : List UInt8, Lib.compareBytes b a = - Lib.compareBytes a b
  | [], [] => rfl
  | [], _ :: _ => rfl
  | _ :: _, [] => rfl
  | a :: as, b :: bs => by
    have ih := cmp_anti as bs
    have h1 : (a < b) = (a.toNat < b.toNat) := propext UInt8.lt_iff_toNat_lt
    have h2 : (b < a) = (b.toNat < a.toNat) := propext UInt8.lt_iff_toNat_lt
    simp only [Lib.compareBytes, h1, h2]
    by_cases c1 : a.toNat < b.toNat
    · rw [if_neg (by omega), if_pos c1, if_pos c1]
      rfl
    · by_cases c2 : b.toNat < a.toNat
      · rw [if_pos c2, if_neg c1, if_pos c2]
      · rw [if_neg c2, if_neg c1, if_neg c1, if_neg c2, ih]

theorem cmp_bounds : ∀ a b : List UInt8, -1 ≤ Lib.compareBytes a b ∧ Lib.compareBytes a b ≤ 1
  | [], [] => by decide
  | [], _ :: _ => by simp [Lib.compareBytes]
  | _ :: _, [] => by simp [Lib.compareBytes]
  | a :: as, b :: bs => by
    have ih := cmp_bounds as bs
    simp only [Lib.compareBytes]
    split
    · omega
    · split
      · omega
      · exact ih

theorem cmp_step {a b : List UInt8} (ha : a ≠ []) (hb : b ≠ []) : Lib.compareBytes a b = if byte a 0 < byte b 0 then -1 else if byte b 0 < byte a 0 then 1 else Lib.compareBytes (a.drop 1) (b.drop 1) := by
  cases a with
  | nil => exact absurd rfl ha
  | cons x xs =>
    cases b with
    | nil => exact absurd rfl hb
    | cons y ys =>
      have h1 : (x < y) = (x.toNat < y.toNat) := propext UInt8.lt_iff_toNat_lt
      have h2 : (y < x) = (y.toNat < x.toNat) := propext UInt8.lt_iff_toNat_lt
      simp only [Lib.compareBytes, h1, h2]
      rfl
theorem cmp_end {a b : List UInt8} (h : a = [] ∨ b = []) : Lib.compareBytes a b = ints a.length b.length := by
  cases a with
  | nil =>
    cases b with
    | nil => rfl
    | cons y ys => simp [Lib.compareBytes, ints] <;> omega
  | cons x xs =>
    cases b with
    | nil => simp [Lib.compareBytes, ints] <;> omega
    | cons y ys => rcases h with h | h <;> cases h
theorem cmpN_end {a b : List Nat} (h : a = [] ∨ b = []) : cmpN a b = ints a.length b.length := by
  cases a with
  | nil =>
    cases b with
    | nil => rfl
    | cons y ys => simp [cmpN, ints] <;> omega
  | cons x xs =>
    cases b with
    | nil => simp [cmpN, ints] <;> omega
    | cons y ys => rcases h with h | h <;> cases h

theorem cmp_prefix : ∀ (p a b : List UInt8), Lib.compareBytes (p ++ a) (p ++ b) = Lib.compareBytes a b
  | [], _, _ => rfl
  | x :: p, a, b => by
    have h : ¬ x < x := by rw [UInt8.lt_iff_toNat_lt]; omega
    simp only [List.cons_append, Lib.compareBytes, if_neg h]
    exact cmp_prefix p a b

theorem cmp_less : ∀ (k : Nat) (a b : List UInt8), k < a.length → k < b.length → (∀ j, j < k → byte a j = byte b j) → byte a k < byte b k → Lib.compareBytes a b = -1
  | k, [], _, h, _, _, _ => by simp at h
  | k, _ :: _, [], _, h, _, _ => by simp at h
  | 0, x :: a, y :: b, _, _, _, h => by
    rw [cmp_step (by simp) (by simp), if_pos h]
  | k + 1, x :: a, y :: b, h1, h2, hs, h => by
    have e0 := hs 0 (by omega)
    rw [cmp_step (by simp) (by simp), if_neg (by omega), if_neg (by omega)]
    exact cmp_less k a b (by simpa using h1) (by simpa using h2) (fun j hj => hs (j + 1) (by omega)) h

set_option maxHeartbeats 4000000 in
/-- The lower rune's form comes first. -/
theorem rune_less {a b : List UInt8} (ha : a ≠ []) (hb : b ≠ []) (ga : bad a = false) (gb : bad b = false) (h : (dec a).1 < (dec b).1) : Lib.compareBytes a b = -1 := by
  have a0 := byte_lt a 0; have a1 := byte_lt a 1; have a2 := byte_lt a 2; have a3 := byte_lt a 3
  have b0 := byte_lt b 0; have b1 := byte_lt b 1; have b2 := byte_lt b 2; have b3 := byte_lt b 3
  have pa := len_pos ha
  have pb := len_pos hb
  have key : byte a 0 < byte b 0 ∨ (2 ≤ a.length ∧ 2 ≤ b.length ∧ byte a 0 = byte b 0 ∧ byte a 1 < byte b 1) ∨ (3 ≤ a.length ∧ 3 ≤ b.length ∧ byte a 0 = byte b 0 ∧ byte a 1 = byte b 1 ∧ byte a 2 < byte b 2) ∨
      (4 ≤ a.length ∧ 4 ≤ b.length ∧ byte a 0 = byte b 0 ∧ byte a 1 = byte b 1 ∧ byte a 2 = byte b 2 ∧ byte a 3 < byte b 3) := by
    rcases dec_cases a ha with ⟨_, e⟩ | ⟨_, _, _, _, _, e⟩ | ⟨_, _, _, _, _, _, _, e⟩ | ⟨_, _, _, _, _, _, _, _, e⟩ | ⟨_, e⟩
    · rcases dec_cases b hb with ⟨_, f⟩ | ⟨_, _, _, _, _, f⟩ | ⟨_, _, _, _, _, _, _, f⟩ | ⟨_, _, _, _, _, _, _, _, f⟩ | ⟨_, f⟩ <;> (rw [e, f] at h; simp only at h; left; omega)
    · rcases dec_cases b hb with ⟨_, f⟩ | ⟨_, _, _, _, _, f⟩ | ⟨_, _, _, _, _, _, _, f⟩ | ⟨_, _, _, _, _, _, _, _, f⟩ | ⟨_, f⟩
      · rw [e, f] at h; simp only at h; omega
      · rw [e, f] at h; simp only at h; by_cases c : byte a 0 = byte b 0
        · right; left; omega
        · left; omega
      · left; omega
      · left; omega
      · rw [bad, f] at gb; simp at gb
    · rcases dec_cases b hb with ⟨_, f⟩ | ⟨_, _, _, _, _, f⟩ | ⟨_, _, _, _, _, _, _, f⟩ | ⟨_, _, _, _, _, _, _, _, f⟩ | ⟨_, f⟩
      · rw [e, f] at h; simp only at h; omega
      · rw [e, f] at h; simp only at h; omega
      · rw [e, f] at h; simp only at h; by_cases c : byte a 0 = byte b 0
        · by_cases c' : byte a 1 = byte b 1
          · right; right; left; omega
          · right; left; omega
        · left; omega
      · left; omega
      · rw [bad, f] at gb; simp at gb
    · rcases dec_cases b hb with ⟨_, f⟩ | ⟨_, _, _, _, _, f⟩ | ⟨_, _, _, _, _, _, _, f⟩ | ⟨_, _, _, _, _, _, _, _, f⟩ | ⟨_, f⟩
      · rw [e, f] at h; simp only at h; omega
      · rw [e, f] at h; simp only at h; omega
      · rw [e, f] at h; simp only at h; omega
      · rw [e, f] at h; simp only at h; by_cases c : byte a 0 = byte b 0
        · by_cases c' : byte a 1 = byte b 1
          · by_cases c'' : byte a 2 = byte b 2
            · right; right; right; omega
            · right; right; left; omega
          · right; left; omega
        · left; omega
      · rw [bad, f] at gb; simp at gb
    · rw [bad, e] at ga; simp at ga
  rcases key with k | ⟨l1, l2, e0, k⟩ | ⟨l1, l2, e0, e1, k⟩ | ⟨l1, l2, e0, e1, e2, k⟩
  · exact cmp_less 0 a b pa pb (fun j hj => by omega) k
  · exact cmp_less 1 a b l1 l2 (fun j hj => by
      obtain rfl : j = 0 := (by omega)
      exact e0) k
  · exact cmp_less 2 a b l1 l2 (fun j hj => by
      have : j = 0 ∨ j = 1 := by omega
      rcases this with rfl | rfl
      · exact e0
      · exact e1) k
  · exact cmp_less 3 a b l1 l2 (fun j hj => by
      have : j = 0 ∨ j = 1 ∨ j = 2 := by omega
      rcases this with rfl | rfl | rfl
      · exact e0
      · exact e1
      · exact e2) k

theorem runes_cmp : ∀ (n : Nat) (a b : List UInt8) (x y : List Nat), a.length ≤ n → runes a = some x → runes b = some y → Lib.compareBytes a b = cmpN x y
  | n, a, b, x, y, hn, hx, hy => by
    by_cases ha : a = []
    · subst ha
      rw [runes_nil] at hx; cases hx
      by_cases hb : b = []
      · subst hb; rw [runes_nil] at hy; cases hy; rfl
      · have gb := runes_good hy hb
        rw [runes_step hb gb] at hy
        cases hu : runes (b.drop (dec b).2) with
        | none => rw [hu] at hy; cases hy
        | some u =>
          rw [hu] at hy; cases hy
          cases b with
          | nil => exact absurd rfl hb
          | cons c t => rfl
    · have ga := runes_good hx ha
      have hla := drop_lt ha
      obtain ⟨n, rfl⟩ : ∃ j, n = j + 1 := ⟨n - 1, by omega⟩
      rw [runes_step ha ga] at hx
      cases hu : runes (a.drop (dec a).2) with
      | none => rw [hu] at hx; cases hx
      | some u =>
        rw [hu] at hx; cases hx
        by_cases hb : b = []
        · subst hb
          rw [runes_nil] at hy; cases hy
          cases a with
          | nil => exact absurd rfl ha
          | cons c t => rfl
        · have gb := runes_good hy hb
          rw [runes_step hb gb] at hy
          cases hv : runes (b.drop (dec b).2) with
          | none => rw [hv] at hy; cases hy
          | some v =>
            rw [hv] at hy; cases hy
            simp only [cmpN]
            by_cases c1 : (dec a).1 < (dec b).1
            · rw [if_pos c1]; exact rune_less ha hb ga gb c1
            · rw [if_neg c1]
              by_cases c2 : (dec b).1 < (dec a).1
              · rw [if_pos c2, ← Int.neg_neg (Lib.compareBytes a b), ← cmp_anti, rune_less hb ha gb ga c2]; rfl
              · rw [if_neg c2]
                have er : (dec a).1 = (dec b).1 := by omega
                have ea := encode_dec a ha ga
                have eb := encode_dec b hb gb
                rw [er, eb] at ea
                have sa : a = b.take (dec b).2 ++ a.drop (dec a).2 := by rw [ea, List.take_append_drop]
                have sb : b = b.take (dec b).2 ++ b.drop (dec b).2 := by rw [List.take_append_drop]
                have ih := runes_cmp n (a.drop (dec a).2) (b.drop (dec b).2) u v (by omega) hu hv
                rw [← ih]
                have hp := cmp_prefix (b.take (dec b).2) (a.drop (dec a).2) (b.drop (dec b).2)
                rw [← sa, ← sb] at hp
                exact hp
end Go.Proofs.YtldfobciojmlnaaDoor.Gly
