/-
  Plain mathematics: names, and ids, as lists of bytes.
-/
import Derived.Test.YtbphmaoomnocmaaDoorGlyPureB
namespace Go.Proofs.YtbphmaoomnocmaaDoor
open Go.RowKit
namespace Gly

def nameOk : Bool → List UInt8 → Bool
  | _, [] => true
  | first, c :: t => (letterB c.toNat || (!first && (digitB c.toNat || c.toNat == 95))) && nameOk false t
def nameB (l : List UInt8) : Bool := decide (1 ≤ l.length ∧ l.length ≤ 16) && nameOk true l

theorem nameOk_step {l : List UInt8} (h : l ≠ []) (first : Bool) : nameOk first l = ((letterB (byte l 0) || (!first && (digitB (byte l 0) || byte l 0 == 95))) && nameOk false (l.drop 1)) := by
  cases l with
  | nil => exact absurd rfl h
  | cons c t => rfl
theorem dec_low {l : List UInt8} (_h : l ≠ []) (hb : byte l 0 < 128) : dec l = (byte l 0, 1) := by rw [dec_def, Lib.decodeN, if_pos hb]
theorem dec_high {l : List UInt8} (h : l ≠ []) (hb : 128 ≤ byte l 0) : 128 ≤ (dec l).1 := by
  have h0 := byte_lt l 0; have h1 := byte_lt l 1; have h2 := byte_lt l 2; have h3 := byte_lt l 3
  rcases dec_cases l h with ⟨_, e⟩ | ⟨_, _, _, _, _, e⟩ | ⟨_, _, _, _, _, _, _, e⟩ | ⟨_, _, _, _, _, _, _, _, e⟩ | ⟨_, e⟩ <;> rw [e] <;> simp <;> omega

/-- The test at a rune is the test at its first byte; where it is met the rune is one byte. -/
theorem nameOk_rune {l : List UInt8} (h : l ≠ []) (first : Bool) : nameOk first l = ((letterB (dec l).1 || (!first && (digitB (dec l).1 || (dec l).1 == 95))) && nameOk false (l.drop (dec l).2)) := by
  rw [nameOk_step h]
  by_cases hb : byte l 0 < 128
  · rw [dec_low h hb]
  · have := dec_high h (by omega)
    have a1 : letterB (byte l 0) = false := by simp [letterB]; omega
    have a2 : digitB (byte l 0) = false := by simp [digitB]; omega
    have a3 : (byte l 0 == 95) = false := by simp; omega
    have b1 : letterB (dec l).1 = false := by simp [letterB]; omega
    have b2 : digitB (dec l).1 = false := by simp [digitB]; omega
    have b3 : ((dec l).1 == 95) = false := by simp; omega
    rw [a1, a2, a3, b1, b2, b3]
    cases first <;> rfl
end Gly
namespace Gly

theorem idFrom_runes : ∀ (k : Nat) (l : List UInt8), l.length ≤ k → ∀ n, n ≤ 24 → idFrom n l = match runes l with | some t => decide (0 < n + t.length ∧ n + t.length ≤ 24) && t.all plainB | none => false
  | k, l, hk, n, hn => by
    by_cases h : l = []
    · subst h
      rw [idFrom_nil, runes_nil]
      simp
      omega
    · have hl := drop_lt h
      obtain ⟨k, rfl⟩ : ∃ j, k = j + 1 := ⟨k - 1, by omega⟩
      rw [idFrom_step n h]
      cases hb : bad l with
      | true =>
        rw [runes_bad h hb]
        simp
      | false =>
        rw [runes_step h hb]
        by_cases h24 : 24 < n + 1
        · rw [if_pos h24]
          cases runes (l.drop (dec l).2) with
          | none => rfl
          | some t => simp; omega
        · rw [if_neg h24]
          have ih := idFrom_runes k (l.drop (dec l).2) (by omega) (n + 1) (by omega)
          cases hp : plainB (dec l).1 with
          | true =>
            simp only [Bool.not_false, Bool.and_self, if_true]
            rw [ih]
            cases runes (l.drop (dec l).2) with
            | none => rfl
            | some t =>
              simp only [Option.map_some, List.length_cons, List.all_cons, hp, Bool.true_and]
              rw [show decide (0 < n + 1 + t.length ∧ n + 1 + t.length ≤ 24) = decide (0 < n + (t.length + 1) ∧ n + (t.length + 1) ≤ 24) from decide_eq_decide.2 ⟨fun _ => by omega, fun _ => by omega⟩]
          | false =>
            cases runes (l.drop (dec l).2) with
            | none => rfl
            | some t => simp [hp]
theorem idB_runes (l : List UInt8) : idB l = match runes l with | some t => decide (1 ≤ t.length ∧ t.length ≤ 24) && t.all plainB | none => false := by
  rw [idB, idFrom_runes l.length l (Nat.le_refl _) 0 (by omega)]
  cases runes l with
  | none => rfl
  | some t =>
    simp only [Nat.zero_add]
    rfl
end Gly
end Go.Proofs.YtbphmaoomnocmaaDoor
