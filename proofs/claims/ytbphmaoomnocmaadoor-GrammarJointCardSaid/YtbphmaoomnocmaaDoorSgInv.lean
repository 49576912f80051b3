/-
  Plain mathematics under package sigil's Lex: what its loop keeps.
-/
import Derived.Test.YtbphmaoomnocmaaDoorSgPure
namespace Go.Proofs.YtbphmaoomnocmaaDoor.Sg
open Go

/-- Tokens behind one another: those told, then those behind the first k runes of what is left. -/
def Inv (q u : List Nat) (p : Nat × Nat) (k : Nat) (acc : List Tok) : Prop :=
  (acc ++ (lex (behinds p (u.take k)) (u.drop k)).1, (lex (behinds p (u.take k)) (u.drop k)).2) = lex (1, 1) q
theorem inv_start (q : List Nat) : Inv q q (1, 1) 0 [] := by simp [Inv, behinds_nil]
theorem inv_next {q t : List Nat} {r k : Nat} {p : Nat × Nat} {acc : List Tok} (h : Inv q (r :: t) p (k + 1) acc) : Inv q t (behind p r) k acc := by
  rw [Inv, List.take_succ_cons, List.drop_succ_cons, behinds_cons] at h
  exact h
theorem inv_gap {q u : List Nat} {p : Nat × Nat} {acc : List Tok} (h : Inv q u p 0 acc) (hu : u ≠ []) (h1 : (piece u).1 = -1) : Inv q u p (piece u).2 acc := by
  rw [Inv, List.take_zero, List.drop_zero, behinds_nil, lex_gap hu h1] at h
  exact h
theorem inv_tok {q u : List Nat} {p : Nat × Nat} {acc : List Tok} (h : Inv q u p 0 acc) (hu : u ≠ []) (h0 : (piece u).1 ≠ 0) (h1 : (piece u).1 ≠ -1) :
    Inv q u p (piece u).2 (acc ++ [⟨(piece u).1, u.take (piece u).2, p⟩]) := by
  rw [Inv, List.take_zero, List.drop_zero, behinds_nil, lex_tok hu h0 h1] at h
  rw [Inv, List.append_assoc]
  exact h
theorem inv_end {q : List Nat} {p : Nat × Nat} {k : Nat} {acc : List Tok} (h : Inv q [] p k acc) : lex (1, 1) q = (acc, p, true) := by
  rw [Inv, List.take_nil, List.drop_nil, behinds_nil, lex_nil] at h
  rw [← h]; simp
theorem inv_bad {q u : List Nat} {p : Nat × Nat} {acc : List Tok} (h : Inv q u p 0 acc) (hu : u ≠ []) (h0 : (piece u).1 = 0) : lex (1, 1) q = (acc, p, false) := by
  rw [Inv, List.take_zero, List.drop_zero, behinds_nil, lex_bad hu h0] at h
  rw [← h]; simp
/-! ### the same, by places in the whole -/
theorem adv_blank {q t : List Nat} {a r : Nat} {acc : List Tok} (h : Inv q q (1, 1) a acc) (hd : q.drop a = r :: t) (hb : blank r = true) : Inv q q (1, 1) (a + 1) acc := by
  rw [Inv, hd, lex_blank hb] at h
  have h1 : q.drop (a + 1) = t := by rw [← List.drop_drop, hd]; rfl
  have h2 : behinds (1, 1) (q.take (a + 1)) = behind (behinds (1, 1) (q.take a)) r := by
    rw [← behinds_add, hd]; rfl
  rw [Inv, h1, h2]; exact h
theorem adv_gap {q : List Nat} {a : Nat} {acc : List Tok} (h : Inv q q (1, 1) a acc) (hu : q.drop a ≠ []) (h1 : (piece (q.drop a)).1 = -1) : Inv q q (1, 1) (a + (piece (q.drop a)).2) acc := by
  rw [Inv, lex_gap hu h1, behinds_add, List.drop_drop] at h
  exact h
theorem adv_tok {q : List Nat} {a : Nat} {acc : List Tok} (h : Inv q q (1, 1) a acc) (hu : q.drop a ≠ []) (h0 : (piece (q.drop a)).1 ≠ 0) (h1 : (piece (q.drop a)).1 ≠ -1) :
    Inv q q (1, 1) (a + (piece (q.drop a)).2) (acc ++ [⟨(piece (q.drop a)).1, (q.drop a).take (piece (q.drop a)).2, behinds (1, 1) (q.take a)⟩]) := by
  rw [Inv, lex_tok hu h0 h1, behinds_add, List.drop_drop] at h
  rw [Inv, List.append_assoc]
  exact h
theorem adv_bad {q : List Nat} {a : Nat} {acc : List Tok} (h : Inv q q (1, 1) a acc) (hu : q.drop a ≠ []) (h0 : (piece (q.drop a)).1 = 0) : lex (1, 1) q = (acc, behinds (1, 1) (q.take a), false) := by
  rw [Inv, lex_bad hu h0] at h
  rw [← h]; simp
theorem adv_end {q : List Nat} {acc : List Tok} (h : Inv q q (1, 1) q.length acc) : lex (1, 1) q = (acc, behinds (1, 1) q, true) := by
  rw [Inv, List.drop_length, List.take_length, lex_nil] at h
  rw [← h]; simp
/-! ### the document's words -/
def goes (q : List Nat) (a j r : Nat) : Bool := if a + j < q.length then (if j = 0 then letter r else inWord (q.getD (a + j) 0)) else false
def Wd (q : List Nat) (a j r : Nat) : Prop := j = 0 ∨ (letter r = true ∧ 1 ≤ j ∧ j + run inWord (q.drop (a + j)) = run inWord (q.drop a))
theorem goes_on {q t : List Nat} {a j r : Nat} (hd : q.drop a = r :: t) (h : Wd q a j r) (hg : goes q a j r = true) : Wd q a (j + 1) r := by
  unfold goes at hg
  split at hg
  · rename_i hlt
    rcases h with rfl | ⟨h1, h2, h3⟩
    · rw [if_pos rfl] at hg
      refine .inr ⟨hg, by omega, ?_⟩
      rw [show a + (0 + 1) = a + 1 by omega, ← List.drop_drop, hd, run_cons _ (letter_inWord hg)]
      simp; omega
    · rw [if_neg (by omega)] at hg
      refine .inr ⟨h1, by omega, ?_⟩
      rw [List.drop_eq_getElem_cons hlt, run_cons _ (by simpa [List.getD, hlt] using hg)] at h3
      rw [show a + (j + 1) = a + j + 1 by omega]; omega
  · cases hg
theorem goes_stop {q : List Nat} {a j r : Nat} (ha : a < q.length) (h : Wd q a j r) (hg : goes q a j r = false) : (letter r = false ∧ j = 0) ∨ (letter r = true ∧ 1 ≤ j ∧ j = run inWord (q.drop a)) := by
  unfold goes at hg
  rcases h with rfl | ⟨h1, h2, h3⟩
  · rw [if_pos (by omega), if_pos rfl] at hg
    exact .inl ⟨hg, rfl⟩
  · refine .inr ⟨h1, h2, ?_⟩
    split at hg
    · rename_i hlt
      rw [if_neg (by omega)] at hg
      rw [List.drop_eq_getElem_cons hlt, run_stop _ (by simpa [List.getD, hlt] using hg)] at h3
      omega
    · rw [List.drop_eq_nil_of_le (by omega), run_nil] at h3
      omega
end Go.Proofs.YtbphmaoomnocmaaDoor.Sg
