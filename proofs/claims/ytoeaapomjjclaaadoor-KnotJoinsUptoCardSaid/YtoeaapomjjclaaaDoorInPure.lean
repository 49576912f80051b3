/-
  Plain mathematics under layer 4 (knot): the value of a number's first digits. No program is named here.
-/
import Derived.Test.YtoeaapomjjclaaaDoorKnotPure
namespace Go.Proofs.YtoeaapomjjclaaaDoor.Knot
open Go Gly

theorem pre_step {l : List UInt8} {k : Nat} (hk : k < l.length) : value 0 (l.take (k + 1)) = value 0 (l.take k) * 10 + (l[k].toNat - 48) := by
  rw [List.take_succ_eq_append_getElem hk, value_append, value_one]
theorem pre_lt {l : List UInt8} (h : ∀ b ∈ l, 48 ≤ b.toNat ∧ b.toNat ≤ 57) : ∀ k, k ≤ l.length → value 0 (l.take k) < 10 ^ k
  | 0, _ => by simp [value_nil]
  | k + 1, hk => by
    have h1 := pre_lt h k (by omega)
    have h2 := h l[k] (List.getElem_mem _)
    rw [pre_step (by omega), Nat.pow_succ]
    omega
theorem value_ge : ∀ (l : List UInt8) (v : Nat), v ≤ value v l
  | [], v => by rw [value_nil]; exact Nat.le_refl _
  | b :: l, v => by
    rw [value_cons]
    have := value_ge l (more v b)
    rw [more_eq] at this ⊢
    omega
theorem pre_pos {n k : Nat} (h1 : 1 ≤ k) (h2 : k < (digits n).length) : value 0 ((digits n).take k) ≠ 0 := by
  have hl := digits_lead n (digits_long (n := n) (by omega))
  have hb := digits_bytes n
  cases hd : digits n with
  | nil => exact absurd hd (digits_ne _)
  | cons a l =>
    rw [hd] at hl hb
    have ha := hb a (List.mem_cons_self ..)
    have hne : a ≠ 48 := fun e => hl (by rw [e]; rfl)
    have hn : a.toNat ≠ 48 := fun e => hne (UInt8.toNat_inj.1 e)
    obtain ⟨j, rfl⟩ : ∃ j, k = j + 1 := ⟨k - 1, by omega⟩
    rw [List.take_succ_cons, value_cons]
    have := value_ge (l.take j) (more 0 a)
    rw [more_eq] at this ⊢
    omega
theorem pre_all (n : Nat) : value 0 ((digits n).take (digits n).length) = n := by rw [List.take_length, value_digits]
/-- The bytes of a tied number, one by one. -/
theorem num_at {n k : Nat} {x : List UInt8} (hk : k < (digits n).length) : (number n ++ x)[k]? = some ((digits n)[k]) := by
  rw [number, List.append_assoc, List.getElem?_append_left hk, List.getElem?_eq_getElem hk]
theorem num_end (n : Nat) (x : List UInt8) : (number n ++ x)[(digits n).length]? = some 59 := by
  rw [number, List.append_assoc, List.getElem?_append_right (Nat.le_refl _), Nat.sub_self]
  rfl
theorem num_size (n : Nat) : (number n).length = (digits n).length + 1 := by rw [number, List.length_append, List.length_singleton]
end Go.Proofs.YtoeaapomjjclaaaDoor.Knot
