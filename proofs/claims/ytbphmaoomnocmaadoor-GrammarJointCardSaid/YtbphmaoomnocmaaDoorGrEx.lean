/-
  Plain mathematics of layer 7 (grammar): examples, reckoned.
-/
import Derived.Test.YtbphmaoomnocmaaDoorGrErr
namespace Go.Proofs.YtbphmaoomnocmaaDoor
open Go.RowKit
namespace Gr
open Tr (Nd none0)
open Sg (Tok kt piece behinds lex)

/-- lex, by so many steps. -/
def lexF : Nat → Nat × Nat → List Nat → List Tok × (Nat × Nat) × Bool
  | 0, p, _ => ([], p, true)
  | k + 1, p, q =>
    if q = [] then ([], p, true)
    else if (piece q).1 = 0 then ([], p, false)
    else if (piece q).1 = -1 then lexF k (behinds p (q.take (max (piece q).2 1))) (q.drop (max (piece q).2 1))
    else (⟨(piece q).1, q.take (piece q).2, p⟩ :: (lexF k (behinds p (q.take (max (piece q).2 1))) (q.drop (max (piece q).2 1))).1, (lexF k (behinds p (q.take (max (piece q).2 1))) (q.drop (max (piece q).2 1))).2)
theorem lexF_eq : ∀ (k : Nat) (p : Nat × Nat) (q : List Nat), q.length ≤ k → lex p q = lexF k p q
  | 0, p, q, h => by
    obtain rfl := List.eq_nil_of_length_eq_zero (Nat.le_zero.1 h)
    rw [Sg.lex_nil]; rfl
  | k + 1, p, q, h => by
    rw [lexF]
    by_cases hq : q = []
    · subst hq; rw [if_pos rfl, Sg.lex_nil]
    · have hl : (q.drop (max (piece q).2 1)).length ≤ k := by
        have := List.length_pos_iff.2 hq
        rw [List.length_drop]; omega
      rw [if_neg hq, lex, dif_neg hq]
      by_cases h0 : (piece q).1 = 0
      · rw [if_pos h0, if_pos h0]
      · rw [if_neg h0, if_neg h0]
        simp only
        rw [lexF_eq k _ _ hl]
def ansF (q : List Nat) : Int × (Nat × Nat) × List Tok :=
  if (lexF q.length (1, 1) q).2.2 then (0, (lexF q.length (1, 1) q).2.1, (lexF q.length (1, 1) q).1) else (10, (lexF q.length (1, 1) q).2.1, [])
theorem ansF_eq {q : List Nat} (h : q.length ≤ 3000) : Sg.ans (some q) = ansF q := by
  have e := lexF_eq q.length (1, 1) q (Nat.le_refl _)
  rw [ansF, ← e]
  cases h2 : (lex (1, 1) q).2.2 with
  | true => rw [Sg.ans_ok (by omega) h2]; rfl
  | false => rw [Sg.ans_bad (by omega) h2]; rfl
/-- What is told of an answer. -/
structure Told (r : Nd × (Nat × Nat) × Int) (code : Int) (pl : Nat × Nat) (k : Int) (a b : List UInt8) (n : Nat) : Prop where
  code : r.2.2 = code
  place : r.2.1 = pl
  kind : r.1.kind = k
  ta : r.1.ta.data.toList = a
  tb : r.1.tb.data.toList = b
  kids : r.1.kids.length = n
def exA : List Nat := [97, 32, 124, 32, 98, 32, 38, 32, 99, 32, 45, 32, 100]
def exB : List Nat := [97, 32, 45, 32, 98, 32, 45, 32, 99]
theorem exA_told : Told (answer zeroN union (ansF exA)) 0 (0, 0) 4 [] [] 2 := ⟨by decide +kernel, by decide +kernel, by decide +kernel, by decide +kernel, by decide +kernel, by decide +kernel⟩
theorem exA_kid : ((answer zeroN union (ansF exA)).1.kids.map Nd.kind) = [2, 5] := by decide +kernel
theorem exB_told : Told (answer zeroN union (ansF exB)) 11 (1, 7) 0 [] [] 0 := ⟨by decide +kernel, by decide +kernel, by decide +kernel, by decide +kernel, by decide +kernel, by decide +kernel⟩
/-- Brackets round an arrow. -/
def nest (k : Nat) : List Nat := List.replicate k 40 ++ [97, 45, 62, 98] ++ List.replicate k 41
instance (r : Nd × (Nat × Nat) × Int) (code : Int) (pl : Nat × Nat) (k : Int) (a b : List UInt8) (n : Nat) : Decidable (Told r code pl k a b n) :=
  decidable_of_iff (r.2.2 = code ∧ r.2.1 = pl ∧ r.1.kind = k ∧ r.1.ta.data.toList = a ∧ r.1.tb.data.toList = b ∧ r.1.kids.length = n) ⟨fun ⟨a, b, c, d, e, f⟩ => ⟨a, b, c, d, e, f⟩, fun ⟨a, b, c, d, e, f⟩ => ⟨a, b, c, d, e, f⟩⟩
theorem nests : ∀ k, k < 20 → Told (answer zeroN union (ansF (nest k))) (if 8 < k then 12 else 0) (if 8 < k then (1, 9) else (0, 0)) (if 8 < k then 0 else 3) (if 8 < k then [] else [97]) (if 8 < k then [] else [98]) 0 := by decide +kernel
theorem nest_len (k : Nat) (h : k < 20) : (nest k).length ≤ 3000 := by unfold nest; simp; omega
theorem nest_low (k : Nat) : ∀ r ∈ nest k, r < 128 := by
  intro r hr
  simp only [nest, List.mem_append, List.mem_replicate] at hr
  rcases hr with (⟨-, rfl⟩ | hr) | ⟨-, rfl⟩
  · decide
  · simp at hr; omega
  · decide
end Gr
end Go.Proofs.YtbphmaoomnocmaaDoor
