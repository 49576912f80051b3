/-
  Plain mathematics under GlyphQuotes and GlyphUnquotes: hexadecimal digits of at least so many places.
-/
import Derived.Test.YtldfobciojmlnaaDoorGlyPureB
namespace Go.Proofs.YtldfobciojmlnaaDoor.Gly
open Go

/-- A number's digits, at least k of them: what the document's Hex gathers from behind. -/
def hxg (n : Nat) (k : Int) : List UInt8 := if _h : n = 0 ∧ k ≤ 0 then [] else hxg (n / 16) (k - 1) ++ [hexDigit (n % 16)]
termination_by n + k.toNat
decreasing_by omega

theorem hxg_end {n : Nat} {k : Int} (h : n = 0 ∧ k ≤ 0) : hxg n k = [] := by rw [hxg, dif_pos h]
theorem hxg_step {n : Nat} {k : Int} (h : ¬ (n = 0 ∧ k ≤ 0)) : hxg n k = hxg (n / 16) (k - 1) ++ [hexDigit (n % 16)] := by rw [hxg, dif_neg h]

theorem hxg_hex : ∀ (m n : Nat) (k : Int), n ≤ m → 0 < n → k ≤ 1 → hxg n k = hex n
  | 0, n, k, h1, h2, _ => by omega
  | m + 1, n, k, h1, h2, h3 => by
    rw [hxg_step (by omega)]
    by_cases h : n < 16
    · rw [hex_small h, show n / 16 = 0 by omega, hxg_end (by omega), show n % 16 = n by omega]; rfl
    · rw [hex_step h, hxg_hex m (n / 16) (k - 1) (by omega) (by omega) (by omega)]

theorem hxg_one (n : Nat) : hxg n 1 = hex n := by
  by_cases h : n = 0
  · subst h; rw [hxg_step (by omega), hxg_end (by omega), hex_small (by omega)]; rfl
  · exact hxg_hex n n 1 (Nat.le_refl _) (by omega) (Int.le_refl _)

theorem hxg_two {n : Nat} (h : 16 ≤ n) : hxg n 2 = hex n := by
  rw [hxg_step (by omega), hex_step (by omega), show (2 : Int) - 1 = 1 from rfl, hxg_one]

theorem hxg_len : ∀ (M n : Nat) (k : Int) (c : Nat), n + k.toNat ≤ M → n < 16 ^ c → (hxg n k).length ≤ c + k.toNat
  | M, n, k, c, hM, hc => by
    by_cases h : n = 0 ∧ k ≤ 0
    · rw [hxg_end h]; simp
    · rw [hxg_step h, List.length_append]
      cases M with
      | zero => omega
      | succ M =>
        cases c with
        | zero =>
          have hn : n = 0 := by simpa using hc
          have := hxg_len M (n / 16) (k - 1) 0 (by omega) (by subst hn; simp)
          simp; omega
        | succ c =>
          have := hxg_len M (n / 16) (k - 1) c (by omega) (by rw [Nat.pow_succ] at hc; omega)
          simp; omega
theorem hxg_len31 {n k : Nat} (h : n < 2147483648) (hk : k ≤ 2) : (hxg n k).length ≤ 10 := by
  have := hxg_len (n + (k : Int).toNat) n k 8 (Nat.le_refl _) (by omega)
  omega

/-- What Quote shows as it is, in the document's order of words. -/
theorem shown_ref (r : Nat) : decide (32 ≤ r ∧ r ≠ 34 ∧ r ≠ 92 ∧ (r < 127 ∨ 160 < r)) = shown r := by
  unfold shown; congr 1; apply propext; omega

theorem bad_high {l : List UInt8} (h : l ≠ []) (hb : bad l = true) : 128 ≤ byte l 0 := by
  have e : dec l = (65533, 1) := by simpa [bad] using hb
  rcases dec_cases l h with ⟨a, e'⟩ | ⟨a, b, c, d, f, e'⟩ | ⟨a, b, c, d, f, g, i, e'⟩ | ⟨a, b, c, d, f, g, i, j, e'⟩ | ⟨a, e'⟩
  · rw [e] at e'; simp only [Prod.mk.injEq] at e'; omega
  all_goals omega
end Go.Proofs.YtldfobciojmlnaaDoor.Gly
