/-
  Layer 6 (sigil): runes of texts that are joined, or repeated.
-/
import Derived.Test.YtjddojpmgdnicaaSgL
import Derived.Lib.Repeat
namespace Go.Proofs.Ytjddojpmgdnicaa
open Go.RowKit
namespace Sg

theorem byte_append {a : List UInt8} (b : List UInt8) {j : Nat} (h : j < a.length) : Gly.byte (a ++ b) j = Gly.byte a j := by
  unfold Gly.byte
  rw [List.getD, List.getD, List.getElem?_append_left h]
theorem runes_append : ∀ (k : Nat) (a b : List UInt8) (x : List Nat), a.length ≤ k → Gly.runes a = some x → Gly.runes (a ++ b) = (Gly.runes b).map (x ++ ·)
  | k, a, b, x, hk, hx => by
    by_cases h : a = []
    · subst h; rw [Gly.runes_nil] at hx; cases hx
      cases hb : Gly.runes b <;> simp [hb]
    · have hb := Gly.runes_good hx h
      have hw := Gly.dec_width a h
      have hl := Gly.drop_lt h
      obtain ⟨k, rfl⟩ : ∃ j, k = j + 1 := ⟨k - 1, by omega⟩
      have hd : Gly.dec (a ++ b) = Gly.dec a := Gly.dec_same h hb (by rw [List.length_append]; omega) fun j hj => byte_append b (by omega)
      have hne : a ++ b ≠ [] := by simp [h]
      have hb2 : Gly.bad (a ++ b) = false := by rw [Gly.bad, hd]; exact hb
      rw [Gly.runes_step h hb] at hx
      cases hu : Gly.runes (a.drop (Gly.dec a).2) with
      | none => rw [hu] at hx; cases hx
      | some u =>
        rw [hu] at hx; cases hx
        rw [Gly.runes_step hne hb2, hd, List.drop_append_of_le_length (by omega), runes_append k _ b u (by omega) hu, Option.map_map]
        rfl
theorem runes_join {a b : List UInt8} {x : List Nat} (h : Gly.runes a = some x) : Gly.runes (a ++ b) = (Gly.runes b).map (x ++ ·) := runes_append _ a b x (Nat.le_refl _) h
theorem runes_size : ∀ (k : Nat) (a : List UInt8) (x : List Nat), a.length ≤ k → Gly.runes a = some x → a.length ≤ 4 * x.length
  | k, a, x, hk, hx => by
    by_cases h : a = []
    · subst h; simp
    · have hb := Gly.runes_good hx h
      have hw := Gly.dec_width a h
      have hl := Gly.drop_lt h
      obtain ⟨k, rfl⟩ : ∃ j, k = j + 1 := ⟨k - 1, by omega⟩
      rw [Gly.runes_step h hb] at hx
      cases hu : Gly.runes (a.drop (Gly.dec a).2) with
      | none => rw [hu] at hx; cases hx
      | some u =>
        rw [hu] at hx; cases hx
        have := runes_size k _ u (by omega) hu
        rw [List.length_drop] at this
        rw [List.length_cons]; omega
theorem runes_repeat {a : List UInt8} {x : List Nat} (h : Gly.runes a = some x) : ∀ c, ∃ y, Gly.runes (Lib.repeatL a c) = some y ∧ y.length = c * x.length
  | 0 => ⟨[], Gly.runes_nil, by simp⟩
  | c + 1 => by
    obtain ⟨y, hy, hl⟩ := runes_repeat h c
    refine ⟨x ++ y, ?_, by rw [List.length_append, hl, Nat.succ_mul]; omega⟩
    show Gly.runes (a ++ Lib.repeatL a c) = _
    rw [runes_join h, hy]; rfl
end Sg
end Go.Proofs.Ytjddojpmgdnicaa
