/-
  Plain mathematics of layer 7 (grammar): more tokens behind; more brackets that may be opened; tokens of texts within brackets, and one behind another; two expressions with a sign between; words and sizes.
-/
import Derived.Test.YtbphmaoomnocmaaDoorGrErr
import Derived.Test.YtbphmaoomnocmaaDoorNmPure
import Derived.Lib.IndexMore
namespace Go.Proofs.YtbphmaoomnocmaaDoor
open Go.RowKit
namespace Gr
open Tr (Nd none0)
open Sg (Tok kt)

/-- The signs that a part looks for behind what it has read. -/
def looks : List Int := [5, 45, 38, 124, 35, 58, 44, 3]
def Soft (B : List K) : Prop := ∀ k ∈ looks, headK B ≠ k
def Cond (r B : List K) : Prop := r ≠ [] ∨ Soft B
theorem Cond.suf {r r1 B : List K} (h : Cond r B) (hs : r <:+ r1) : Cond r1 B := by
  rcases h with h | h
  · exact .inl fun e => h (by rw [e] at hs; exact List.suffix_nil.1 hs)
  · exact .inr h
def app (s : St) (B : List K) : St := ⟨s.rest ++ B, s.err⟩
theorem next_app {s : St} {B : List K} (h : Cond s.rest B) {k : Int} (hk : k ∈ looks) (hk0 : k ≠ 0) : next (app s B) = k ↔ next s = k := by
  unfold next app
  by_cases he : s.err = 0
  · rw [if_pos he, if_pos he]
    cases hr : s.rest with
    | cons t r => rfl
    | nil =>
      rcases h with h | h
      · exact absurd hr h
      · rw [List.nil_append]
        exact ⟨fun e => absurd e (h k hk), fun e => absurd e.symm hk0⟩
  · rw [if_neg he, if_neg he]
theorem next_more {s : St} {B : List K} (h : next s ≠ 0) : next (app s B) = next s := by
  obtain ⟨he, t, r, hr, -⟩ := next_good h
  unfold next app
  rw [if_pos he, if_pos he, hr]; rfl
theorem tl_app {s : St} {B : List K} (h : next s ≠ 0) : tl (app s B) = app (tl s) B := by
  obtain ⟨he, t, r, hr, -⟩ := next_good h
  unfold tl app
  rw [hr]; rfl
theorem need_app {s : St} {B : List K} {k : Int} (hk : k ≠ 0) (h : (need s k).err = 0) : need (app s B) k = app (need s k) B := by
  obtain ⟨-, hn, -, -⟩ := need_good hk h
  have hn0 : next s ≠ 0 := by rw [hn]; exact hk
  unfold need
  rw [if_pos hn, if_pos (by rw [next_more hn0]; exact hn), tl_app hn0]
theorem word_app {s : St} {B : List K} (h : (word s).2.err = 0) : word (app s B) = ((word s).1, app (word s).2 B) := by
  by_cases hn : next s = 1
  · have hn0 : next s ≠ 0 := by rw [hn]; decide
    obtain ⟨he, t, r, hr, -⟩ := next_good hn0
    unfold word
    rw [if_pos hn, if_pos (by rw [next_more hn0]; exact hn), tl_app hn0]
    unfold app
    rw [hr]; rfl
  · rw [word, if_neg hn] at h
    exact absurd h (fail_err (by decide))
/-- More tokens behind change nothing. -/
def Ext {α : Type} (p : St → α × St) : Prop := ∀ s B, (p s).2.err = 0 → Cond (p s).2.rest B → p (app s B) = ((p s).1, app (p s).2 B)
section
variable {α : Type} {one : St → α × St} {k : Int}
theorem eachs_ext' (hp : Ext one) (hf : Fine one) (hk : k ∈ looks) (hk0 : k ≠ 0) : ∀ (n : Nat) (s : St) (B : List K), s.rest.length ≤ n → (eachs one k s).2.err = 0 → Cond (eachs one k s).2.rest B → eachs one k (app s B) = ((eachs one k s).1, app (eachs one k s).2 B)
  | n, s, B, hn, he, hc => by
    by_cases h : next s = k
    · have h0 : next s ≠ 0 := by rw [h]; exact hk0
      have hl := tl_len h0
      have hs := (hf.suf (tl s)).length_le
      rw [eachs_on hf hk0 h] at he hc ⊢
      simp only at he hc ⊢
      have hsuf := (eachs_fine hf hk0).suf (one (tl s)).2
      have he1 := (eachs_fine hf hk0).err0 he
      have h1 := hp (tl s) B he1 (hc.suf hsuf)
      match n with
      | 0 => omega
      | n + 1 =>
        have h2 := eachs_ext' hp hf hk hk0 n (one (tl s)).2 B (by omega) he hc
        rw [eachs_on hf hk0 (by rw [next_more h0]; exact h), tl_app h0, h1]
        simp only
        rw [h2]
    · rw [eachs_off h] at he hc ⊢
      rw [eachs_off fun e => h ((next_app hc hk hk0).1 e)]
theorem eachs_ext (hp : Ext one) (hf : Fine one) (hk : k ∈ looks) (hk0 : k ≠ 0) : Ext (eachs one k) := fun s B he hc => eachs_ext' hp hf hk hk0 _ s B (Nat.le_refl _) he hc
theorem list_ext (hp : Ext one) (hf : Fine one) (hk : k ∈ looks) (hk0 : k ≠ 0) : Ext (list one k) := fun s B he hc => by
  have he' : (eachs one k (one s).2).2.err = 0 := he
  have hc' : Cond (eachs one k (one s).2).2.rest B := hc
  have h1 := hp s B ((eachs_fine hf hk0).err0 he') (hc'.suf ((eachs_fine hf hk0).suf _))
  have h2 := eachs_ext hp hf hk hk0 (one s).2 B he' hc'
  rw [list, list, h1]
  simp only
  rw [h2]
end
theorem atom_ext {br : P} (hb : Ext br) : Ext (atomOf br) := fun s B he hc => by
  unfold atomOf at he hc ⊢
  by_cases h4 : next s = 4
  · have h0 : next s ≠ 0 := by rw [h4]; decide
    rw [if_pos h4]
    rw [if_pos (by rw [next_more h0]; exact h4), tl_app h0]
  · rw [if_neg h4] at he hc ⊢
    by_cases h40 : next s = 40
    · have h0 : next s ≠ 0 := by rw [h40]; decide
      rw [if_pos h40] at he hc ⊢
      rw [if_neg (by rw [next_more h0]; exact h4), if_pos (by rw [next_more h0]; exact h40)]
      exact hb s B he hc
    · rw [if_neg h40] at he hc ⊢
      have hw : (word s).2.err = 0 := by
        by_cases h5 : next (word s).2 = 5
        · exact (next_good (s := (word s).2) (by rw [h5]; decide)).1
        · rw [if_neg h5] at he; exact he
      have hn1 : next s = 1 := by
        apply Classical.byContradiction
        intro hn
        rw [word, if_neg hn] at hw
        exact fail_err (by decide) hw
      have h0 : next s ≠ 0 := by rw [hn1]; decide
      have e := next_more (B := B) h0
      rw [if_neg (by rw [e]; exact h4), if_neg (by rw [e]; exact h40), word_app hw]
      simp only
      by_cases h5 : next (word s).2 = 5
      · have h05 : next (word s).2 ≠ 0 := by rw [h5]; decide
        rw [if_pos h5] at he hc ⊢
        rw [if_pos (by rw [next_more h05]; exact h5), tl_app h05, word_app he]
      · rw [if_neg h5] at he hc ⊢
        rw [if_neg fun e => h5 ((next_app hc (by decide) (by decide)).1 e)]
theorem less_ext {br : P} (hb : Ext br) (hf : Fine br) : Ext (lessOf br) := fun s B he hc => by
  have ha := atom_ext hb
  have hfa := atom_fine hf
  unfold lessOf at he hc ⊢
  by_cases hn : next (atomOf br s).2 = 45
  · have h0 : next (atomOf br s).2 ≠ 0 := by rw [hn]; decide
    rw [if_pos hn] at he hc ⊢
    simp only at he hc
    obtain ⟨e1, t, r, hr, -⟩ := next_good h0
    have h1 := ha s B e1 (.inl (by rw [hr]; simp))
    have h2 := ha (tl (atomOf br s).2) B he hc
    rw [h1]
    simp only
    rw [if_pos (by rw [next_more h0]; exact hn), tl_app h0, h2]
  · rw [if_neg hn] at he hc ⊢
    have h1 := ha s B he hc
    rw [h1]
    simp only
    rw [if_neg fun e => hn ((next_app hc (by decide) (by decide)).1 e)]
theorem meet_ext {br : P} (hb : Ext br) (hf : Fine br) : Ext (meetOf br) := fun s B he hc => by
  have h := list_ext (less_ext hb hf) (less_fine hf) (k := 38) (by decide) (by decide) s B he hc
  unfold meetOf
  rw [h]
theorem union_ext {br : P} (hb : Ext br) (hf : Fine br) : Ext (unionOf br) := fun s B he hc => by
  have h := list_ext (meet_ext hb hf) (meet_fine hf) (k := 124) (by decide) (by decide) s B he hc
  unfold unionOf
  rw [h]
theorem brk_ext : ∀ d, Ext (brk d)
  | 0 => fun s B he _ => absurd he (fail_err (by decide))
  | d + 1 => fun s B he hc => by
    have hu := union_ext (brk_ext d) (brk_fine d)
    rw [brk] at he hc ⊢
    simp only at he hc
    obtain ⟨e1, hn, hne, -⟩ := need_good (by decide) he
    have e2 := (union_fine (brk_fine d)).err0 e1
    have h0 : next (unionOf (brk d) (need s 40)).2 ≠ 0 := by rw [hn]; decide
    obtain ⟨-, t, r, hr, -⟩ := next_good h0
    have h1 := hu (need s 40) B e1 (.inl (by rw [hr]; simp))
    rw [brk, need_app (by decide) e2, h1]
    simp only
    rw [need_app (by decide) he]
theorem uni_ext : Ext union := union_ext (brk_ext 8) (brk_fine 8)

/-! ### fewer brackets -/
/-- One reads as the other, or finds too many brackets. -/
def Dp {α : Type} (p q : St → α × St) : Prop := ∀ s, p s = q s ∨ (p s).2.err = 12
section
variable {α : Type} {p q : St → α × St} {k : Int}
theorem eachs_dp' (h : Dp p q) (hp : Fine p) (hq : Fine q) (hk0 : k ≠ 0) : ∀ (n : Nat) (s : St), s.rest.length ≤ n → eachs p k s = eachs q k s ∨ (eachs p k s).2.err = 12
  | n, s, hn => by
    by_cases hx : next s = k
    · have h0 : next s ≠ 0 := by rw [hx]; exact hk0
      have hl := tl_len h0
      have hs := (hp.suf (tl s)).length_le
      rw [eachs_on hp hk0 hx, eachs_on hq hk0 hx]
      match n with
      | 0 => omega
      | n + 1 =>
        rcases h (tl s) with h1 | h1
        · rw [← h1]
          rcases eachs_dp' h hp hq hk0 n (p (tl s)).2 (by omega) with h2 | h2
          · rw [h2]; exact .inl rfl
          · exact .inr h2
        · refine .inr ?_
          simp only
          rw [(eachs_fine hp hk0).err _ (by rw [h1]; decide)]
          exact h1
    · rw [eachs_off hx, eachs_off hx]; exact .inl rfl
theorem list_dp (h : Dp p q) (hp : Fine p) (hq : Fine q) (hk0 : k ≠ 0) : Dp (list p k) (list q k) := fun s => by
  unfold list
  rcases h s with h1 | h1
  · rw [← h1]
    rcases eachs_dp' h hp hq hk0 _ (p s).2 (Nat.le_refl _) with h2 | h2
    · rw [h2]; exact .inl rfl
    · exact .inr h2
  · refine .inr ?_
    simp only
    rw [(eachs_fine hp hk0).err _ (by rw [h1]; decide)]
    exact h1
end
/-- At a bracket. -/
def DpB (p q : P) : Prop := ∀ s, next s = 40 → p s = q s ∨ (p s).2.err = 12
theorem atom_dp {p q : P} (h : DpB p q) : Dp (atomOf p) (atomOf q) := fun s => by
  unfold atomOf
  by_cases h4 : next s = 4
  · rw [if_pos h4, if_pos h4]; exact .inl rfl
  rw [if_neg h4, if_neg h4]
  by_cases h40 : next s = 40
  · rw [if_pos h40, if_pos h40]; exact h s h40
  · rw [if_neg h40, if_neg h40]; exact .inl rfl
theorem less_dp {p q : P} (h : DpB p q) : Dp (lessOf p) (lessOf q) := fun s => by
  have ha := atom_dp h
  unfold lessOf
  rcases ha s with h1 | h1
  · rw [← h1]
    by_cases hn : next (atomOf p s).2 = 45
    · rw [if_pos hn, if_pos hn]
      rcases ha (tl (atomOf p s).2) with h2 | h2
      · rw [← h2]; exact .inl rfl
      · exact .inr h2
    · rw [if_neg hn, if_neg hn]
      exact .inl rfl
  · have hn : next (atomOf p s).2 ≠ 45 := by rw [next_bad (by rw [h1]; decide)]; decide
    rw [if_neg hn]
    exact .inr h1
theorem meet_dp {p q : P} (h : DpB p q) (hp : Fine p) (hq : Fine q) : Dp (meetOf p) (meetOf q) := fun s => by
  unfold meetOf
  rcases list_dp (less_dp h) (less_fine hp) (less_fine hq) (k := 38) (by decide) s with h1 | h1
  · rw [h1]; exact .inl rfl
  · exact .inr h1
theorem union_dp {p q : P} (h : DpB p q) (hp : Fine p) (hq : Fine q) : Dp (unionOf p) (unionOf q) := fun s => by
  unfold unionOf
  rcases list_dp (meet_dp h hp hq) (meet_fine hp) (meet_fine hq) (k := 124) (by decide) s with h1 | h1
  · rw [h1]; exact .inl rfl
  · exact .inr h1
theorem brk_dp : ∀ d, DpB (brk d) (brk (d + 1))
  | 0 => fun s hs => by
    have he := (next_good (s := s) (by rw [hs]; decide)).1
    refine .inr ?_
    show (fail s 12).err = 12
    rw [fail, if_pos he]
  | d + 1 => fun s _ => by
    rcases union_dp (brk_dp d) (brk_fine d) (brk_fine (d + 1)) (need s 40) with h | h
    · refine .inl ?_
      rw [brk, brk, h]
    · refine .inr ?_
      rw [brk]
      simp only
      rw [need_bad (by rw [h]; decide) (by decide)]
      exact h
/-- A text that is an expression, within brackets. -/
theorem in_brackets {A R : List K} {x : Nd} (h : union ⟨A, 0⟩ = (x, ⟨[], 0⟩)) : brk 8 ⟨(40, [40]) :: (A ++ (41, [41]) :: R), 0⟩ = (x, ⟨R, 0⟩) ∨ (brk 8 ⟨(40, [40]) :: (A ++ (41, [41]) :: R), 0⟩).2.err = 12 := by
  have hx : union (app ⟨A, 0⟩ ((41, [41]) :: R)) = (x, app ⟨[], 0⟩ ((41, [41]) :: R)) := by
    have h2 := uni_ext ⟨A, 0⟩ ((41, [41]) :: R) (by rw [h]) (.inr fun k hk e => by
      have : (41 : Int) = k := e
      subst this
      revert hk; decide)
    rw [h] at h2
    exact h2
  have hn : need ⟨(40, [40]) :: (A ++ (41, [41]) :: R), 0⟩ 40 = ⟨A ++ (41, [41]) :: R, 0⟩ := rfl
  rw [show brk 8 _ = _ from rfl, brk, hn]
  rcases union_dp (brk_dp 7) (brk_fine 7) (brk_fine 8) ⟨A ++ (41, [41]) :: R, 0⟩ with h3 | h3
  · have h4 : unionOf (brk 8) ⟨A ++ (41, [41]) :: R, 0⟩ = (x, ⟨(41, [41]) :: R, 0⟩) := hx
    rw [h3, h4]
    exact .inl rfl
  · refine .inr ?_
    simp only
    rw [need_bad (by rw [h3]; decide) (by decide)]
    exact h3
end Gr
end Go.Proofs.YtbphmaoomnocmaaDoor

namespace Go.Proofs.YtbphmaoomnocmaaDoor
open Go.RowKit
namespace Sg

theorem run_before {f : Nat → Bool} {y : Nat} (hy : f y = false) (b : List Nat) : ∀ a : List Nat, run f (a ++ y :: b) = run f a
  | [] => by rw [List.nil_append, run_stop _ hy, run_nil]
  | r :: a => by
    cases hr : f r with
    | false => rw [List.cons_append, run_stop _ hr, run_stop _ hr]
    | true => rw [List.cons_append, run_cons _ hr, run_cons _ hr, run_before hy b a]
theorem headD_before {y : Nat} (b t : List Nat) (x : Nat) (hy : y ≠ x) (hx : x ≠ 0) : ((t ++ y :: b).headD 0 = x) = (t.headD 0 = x) := by
  cases t with
  | nil => simp [hy, Ne.symm hx]
  | cons a u => rfl
/-- A piece ahead of a closing bracket. -/
theorem piece_close {r : Nat} {t : List Nat} (b : List Nat) (hb : blank r = false) (hs : ¬ (r = 47 ∧ t.headD 0 = 47)) : piece (r :: (t ++ 41 :: b)) = piece (r :: t) := by
  have hs' : ¬ (r = 47 ∧ (t ++ 41 :: b).headD 0 = 47) := by rw [headD_before b t 47 (by decide) (by decide)]; exact hs
  have hrun : run inWord (r :: (t ++ 41 :: b)) = run inWord (r :: t) := run_before (f := inWord) (y := 41) (by decide) b (r :: t)
  have hle := run_le inWord (r :: t)
  have htk : (r :: (t ++ 41 :: b)).take (run inWord (r :: t)) = (r :: t).take (run inWord (r :: t)) := List.take_append_of_le_length (l₁ := r :: t) (l₂ := 41 :: b) hle
  simp only [piece, hb, Bool.false_eq_true, if_false]
  rw [if_neg hs', if_neg hs, word, word, hrun, htk]
  have e62 := headD_before (y := 41) b t 62 (by decide) (by decide)
  simp only [e62]
theorem lex_close : ∀ (k : Nat) (q b : List Nat) (p : Nat × Nat), q.length ≤ k → ¬ [47, 47] <:+: q → (lex p q).2.2 = true →
    lex p (q ++ 41 :: b) = ((lex p q).1 ++ (lex (lex p q).2.1 (41 :: b)).1, (lex (lex p q).2.1 (41 :: b)).2)
  | k, [], b, p, _, _, _ => by rw [lex_nil]; rfl
  | 0, r :: t, b, p, hk, _, _ => by simp at hk
  | k + 1, r :: t, b, p, hk, hns, hok => by
    rw [List.length_cons] at hk
    have hnt : ¬ [47, 47] <:+: t := fun h => hns (h.trans (List.suffix_cons r t).isInfix)
    cases hb : blank r with
    | true =>
      rw [List.cons_append, lex_blank hb]
      rw [lex_blank hb] at hok ⊢
      exact lex_close k t b _ (by omega) hnt hok
    | false =>
      have hs : ¬ (r = 47 ∧ t.headD 0 = 47) := by
        rintro ⟨rfl, h⟩
        obtain ⟨u, rfl⟩ := headD_ne h (by decide)
        exact hns ⟨[], u, rfl⟩
      have hne : r :: t ≠ [] := by simp
      have hne2 : r :: (t ++ 41 :: b) ≠ [] := by simp
      have hp := piece_close b hb hs
      have h0 : (piece (r :: t)).1 ≠ 0 := fun h0 => by rw [lex_bad hne h0] at hok; cases hok
      have h1 := piece_pos h0
      have hle := piece_le (r :: t)
      have hlen : ((r :: t).drop (piece (r :: t)).2).length ≤ k := by
        rw [List.length_drop, List.length_cons]; omega
      have hnd : ¬ [47, 47] <:+: (r :: t).drop (piece (r :: t)).2 := fun h => hns (h.trans (List.drop_suffix _ _).isInfix)
      have htk : (r :: (t ++ 41 :: b)).take (piece (r :: t)).2 = (r :: t).take (piece (r :: t)).2 := List.take_append_of_le_length (l₁ := r :: t) (l₂ := 41 :: b) hle
      have hdr : (r :: (t ++ 41 :: b)).drop (piece (r :: t)).2 = (r :: t).drop (piece (r :: t)).2 ++ 41 :: b := List.drop_append_of_le_length (l₁ := r :: t) (l₂ := 41 :: b) hle
      rw [List.cons_append]
      by_cases hg : (piece (r :: t)).1 = -1
      · rw [lex_gap hne hg] at hok ⊢
        rw [lex_gap hne2 (by rw [hp]; exact hg), hp, htk, hdr]
        exact lex_close k _ b _ hlen hnd hok
      · rw [lex_tok hne h0 hg] at hok ⊢
        rw [lex_tok hne2 (by rw [hp]; exact h0) (by rw [hp]; exact hg), hp, htk, hdr, lex_close k _ b _ hlen hnd hok]
        rfl
/-- A sign at the front. -/
theorem lex_sign {r : Nat} (h : sign r = true) (hr : r ≠ 45) (t : List Nat) (p : Nat × Nat) : lex p (r :: t) = (⟨(r : Int), [r], p⟩ :: (lex (behind p r) t).1, (lex (behind p r) t).2) := by
  obtain ⟨-, hb, hl, h47, h6⟩ := sign_low h
  have hp : piece (r :: t) = ((r : Int), 1) := by
    rw [piece, if_neg (by rw [hb]; decide), if_neg (fun e => h47 e.1), if_neg (by rw [hl]; decide), if_neg (fun e => hr e.1), if_pos h]
  have := lex_tok (p := p) (q := r :: t) (by simp) (by rw [hp]; simp only; omega) (by rw [hp]; simp only; omega)
  rw [hp] at this
  exact this
theorem lex_minus {t : List Nat} (ht : t.headD 0 ≠ 62) (p : Nat × Nat) : lex p (45 :: t) = (⟨45, [45], p⟩ :: (lex (behind p 45) t).1, (lex (behind p 45) t).2) := by
  have hp : piece (45 :: t) = (45, 1) := by
    rw [piece, if_neg (by decide), if_neg (fun e => absurd e.1 (by decide)), if_neg (by decide), if_neg (fun e => ht e.2), if_pos (by decide)]
    rfl
  have := lex_tok (p := p) (q := 45 :: t) (by simp) (by rw [hp]; decide) (by rw [hp]; decide)
  rw [hp] at this
  exact this
/-- The three signs between two expressions. -/
def between : List (List Nat × List (Int × List Nat)) := [([124], [(124, [124])]), ([38], [(38, [38])]), ([32, 45, 32], [(45, [45])])]
theorem lex_between {m : List Nat × List (Int × List Nat)} (hm : m ∈ between) (t : List Nat) (p : Nat × Nat) : ∃ p', kt (lex p (m.1 ++ 40 :: t)).1 = m.2 ++ (40, [40]) :: kt (lex p' t).1 ∧ (lex p (m.1 ++ 40 :: t)).2.2 = (lex p' t).2.2 := by
  simp only [between, List.mem_cons, List.not_mem_nil, or_false] at hm
  rcases hm with rfl | rfl | rfl
  · rw [show ([124], [((124 : Int), [124])]).1 ++ 40 :: t = 124 :: 40 :: t from rfl, lex_sign (by decide) (by decide), lex_sign (by decide) (by decide)]
    exact ⟨_, rfl, rfl⟩
  · rw [show ([38], [((38 : Int), [38])]).1 ++ 40 :: t = 38 :: 40 :: t from rfl, lex_sign (by decide) (by decide), lex_sign (by decide) (by decide)]
    exact ⟨_, rfl, rfl⟩
  · rw [show ([32, 45, 32], [((45 : Int), [45])]).1 ++ 40 :: t = 32 :: 45 :: 32 :: 40 :: t from rfl, lex_blank (by decide), lex_minus (by simp), lex_blank (by decide), lex_sign (by decide) (by decide)]
    exact ⟨_, rfl, rfl⟩
/-- The tokens of two expressions within brackets, a sign between. -/
theorem lex_joint {q t : List Nat} {m : List Nat × List (Int × List Nat)} (hm : m ∈ between) (hq : ¬ [47, 47] <:+: q) (ht : ¬ [47, 47] <:+: t) (h1 : (lex (1, 1) q).2.2 = true) (h2 : (lex (1, 1) t).2.2 = true) :
    kt (lex (1, 1) (40 :: (q ++ 41 :: (m.1 ++ 40 :: (t ++ [41]))))).1 = (40, [40]) :: (kt (lex (1, 1) q).1 ++ (41, [41]) :: (m.2 ++ (40, [40]) :: (kt (lex (1, 1) t).1 ++ [(41, [41])]))) ∧ (lex (1, 1) (40 :: (q ++ 41 :: (m.1 ++ 40 :: (t ++ [41]))))).2.2 = true := by
  rw [lex_sign (by decide) (by decide)]
  have e1 := lex_place q.length q (behind (1, 1) 40) (1, 1) (Nat.le_refl _)
  have hc := lex_close q.length q (m.1 ++ 40 :: (t ++ [41])) (behind (1, 1) 40) (Nat.le_refl _) hq (by rw [e1.2]; exact h1)
  rw [hc, lex_sign (by decide) (by decide)]
  obtain ⟨p', hp1, hp2⟩ := lex_between hm (t ++ [41]) (behind (lex (behind (1, 1) 40) q).2.1 41)
  have e2 := lex_place t.length t p' (1, 1) (Nat.le_refl _)
  have hc2 := lex_close t.length t [] p' (Nat.le_refl _) ht (by rw [e2.2]; exact h2)
  rw [lex_sign (by decide) (by decide), lex_nil] at hc2
  rw [hc2] at hp1 hp2
  simp only [kt_cons, kt_append]
  refine ⟨?_, hp2⟩
  rw [hp1, e1.1, kt_append, e2.1]
  rfl
end Sg
end Go.Proofs.YtbphmaoomnocmaaDoor

namespace Go.Proofs.YtbphmaoomnocmaaDoor
open Go.RowKit
namespace Gr
open Tr (Nd none0)
open Sg (Tok kt)

/-- Behind an error of too many brackets all stays. -/
theorem fine_deep {α : Type} {p : St → α × St} (hp : Fine p) {s : St} (h : s.err = 12) : (p s).2.err = 12 := by rw [hp.err s (by rw [h]; decide)]; exact h
abbrev B (A : List K) (R : List K) : List K := (40, [40]) :: (A ++ (41, [41]) :: R)
theorem next_B (A R : List K) : next ⟨B A R, 0⟩ = 40 := rfl
theorem atom_B (br : P) (A R : List K) : atomOf br ⟨B A R, 0⟩ = br ⟨B A R, 0⟩ := by
  unfold atomOf
  rw [next_B, if_neg (by decide), if_pos rfl]
theorem eachs_nil {α : Type} (one : St → α × St) (k : Int) (hk : k ≠ 0) : eachs one k ⟨[], 0⟩ = ([], ⟨[], 0⟩) := eachs_off fun e => hk e.symm
/-- The sign's kind, the node's. -/
def signs3 : List (Int × List Nat × Int) := [(124, [124], 4), (38, [38], 5), (45, [45], 6)]
section
variable {br : P} {s r r' : St} {x y : Nd}
theorem less_plain (h : atomOf br s = (x, r)) (hn : next r ≠ 45) : lessOf br s = (x, r) := by unfold lessOf; rw [h, if_neg hn]
theorem less_two (h : atomOf br s = (x, r)) (hn : next r = 45) (h2 : atomOf br (tl r) = (y, r')) : lessOf br s = (.mk 6 none0 none0 [x, y], r') := by unfold lessOf; rw [h, if_pos hn, h2]
theorem less_deep (h : (atomOf br s).2.err = 12) : (lessOf br s).2.err = 12 := by
  unfold lessOf
  rw [if_neg (by rw [next_bad (by rw [h]; decide)]; decide)]
  exact h
theorem less_deep2 (h : atomOf br s = (x, r)) (hn : next r = 45) (h2 : (atomOf br (tl r)).2.err = 12) : (lessOf br s).2.err = 12 := by unfold lessOf; rw [h, if_pos hn]; exact h2
theorem meet_one (h : lessOf br s = (x, r)) (hn : next r ≠ 38) : meetOf br s = (x, r) := by
  unfold meetOf list
  rw [h]
  simp only
  rw [eachs_off hn]; rfl
theorem meet_two (hf : Fine br) (h : lessOf br s = (x, r)) (hn : next r = 38) (h2 : lessOf br (tl r) = (y, r')) (hn2 : next r' ≠ 38) : meetOf br s = (.mk 5 none0 none0 [x, y], r') := by
  unfold meetOf list
  rw [h]
  simp only
  rw [eachs_on (less_fine hf) (by decide) hn, h2]
  simp only
  rw [eachs_off hn2]; rfl
theorem meet_deep (hf : Fine br) (h : (lessOf br s).2.err = 12) : (meetOf br s).2.err = 12 := fine_deep (eachs_fine (less_fine hf) (by decide)) h
theorem meet_deep2 (hf : Fine br) (h : lessOf br s = (x, r)) (hn : next r = 38) (h2 : (lessOf br (tl r)).2.err = 12) : (meetOf br s).2.err = 12 := by
  unfold meetOf list
  rw [h]
  simp only
  rw [eachs_on (less_fine hf) (by decide) hn]
  exact fine_deep (eachs_fine (less_fine hf) (by decide)) h2
theorem union_one (h : meetOf br s = (x, r)) (hn : next r ≠ 124) : unionOf br s = (x, r) := by
  unfold unionOf list
  rw [h]
  simp only
  rw [eachs_off hn]; rfl
theorem union_two (hf : Fine br) (h : meetOf br s = (x, r)) (hn : next r = 124) (h2 : meetOf br (tl r) = (y, r')) (hn2 : next r' ≠ 124) : unionOf br s = (.mk 4 none0 none0 [x, y], r') := by
  unfold unionOf list
  rw [h]
  simp only
  rw [eachs_on (meet_fine hf) (by decide) hn, h2]
  simp only
  rw [eachs_off hn2]; rfl
theorem union_deep (hf : Fine br) (h : (meetOf br s).2.err = 12) : (unionOf br s).2.err = 12 := fine_deep (eachs_fine (meet_fine hf) (by decide)) h
theorem union_deep2 (hf : Fine br) (h : meetOf br s = (x, r)) (hn : next r = 124) (h2 : (meetOf br (tl r)).2.err = 12) : (unionOf br s).2.err = 12 := by
  unfold unionOf list
  rw [h]
  simp only
  rw [eachs_on (meet_fine hf) (by decide) hn]
  exact fine_deep (eachs_fine (meet_fine hf) (by decide)) h2
end
theorem next_end {k : Int} (hk : k ≠ 0) : next ⟨[], 0⟩ ≠ k := fun e => hk e.symm
theorem joint {x y : Nd} {A C : List K} (hA : union ⟨A, 0⟩ = (x, ⟨[], 0⟩)) (hC : union ⟨C, 0⟩ = (y, ⟨[], 0⟩)) {m : Int × List Nat × Int} (hm : m ∈ signs3) :
    union ⟨B A ((m.1, m.2.1) :: B C []), 0⟩ = (.mk m.2.2 none0 none0 [x, y], ⟨[], 0⟩) ∨ (union ⟨B A ((m.1, m.2.1) :: B C []), 0⟩).2.err = 12 := by
  have hb := brk_fine 8
  have h1 := in_brackets (R := (m.1, m.2.1) :: B C []) hA
  have h2 := in_brackets (R := []) hC
  rw [← atom_B (brk 8)] at h1 h2
  have hn : next ⟨(m.1, m.2.1) :: B C [], 0⟩ = m.1 := rfl
  have ht : tl ⟨(m.1, m.2.1) :: B C [], 0⟩ = ⟨B C [], 0⟩ := rfl
  generalize (⟨B A ((m.1, m.2.1) :: B C []), 0⟩ : St) = s at *
  generalize (⟨(m.1, m.2.1) :: B C [], 0⟩ : St) = r at *
  generalize (⟨B C [], 0⟩ : St) = r2 at *
  rw [← ht] at h2
  show unionOf (brk 8) s = _ ∨ (unionOf (brk 8) s).2.err = 12
  rcases h1 with h1 | h1
  case inr => exact .inr (union_deep hb (meet_deep hb (less_deep h1)))
  simp only [signs3, List.mem_cons, List.not_mem_nil, or_false] at hm
  have d1 : (124 : Int) ≠ 45 := by decide
  have d2 : (124 : Int) ≠ 38 := by decide
  have d3 : (38 : Int) ≠ 45 := by decide
  rcases hm with rfl | rfl | rfl
  · have hn : next r = 124 := hn
    have m1 := meet_one (less_plain h1 (by rw [hn]; exact d1)) (by rw [hn]; exact d2)
    rcases h2 with h2 | h2
    · exact .inl (union_two hb m1 hn (meet_one (less_plain h2 (next_end (by decide))) (next_end (by decide))) (next_end (by decide)))
    · exact .inr (union_deep2 hb m1 hn (meet_deep hb (less_deep h2)))
  · have hn : next r = 38 := hn
    have l1 := less_plain h1 (by rw [hn]; exact d3)
    rcases h2 with h2 | h2
    · exact .inl (union_one (meet_two hb l1 hn (less_plain h2 (next_end (by decide))) (next_end (by decide))) (next_end (by decide)))
    · exact .inr (union_deep hb (meet_deep2 hb l1 hn (less_deep h2)))
  · have hn : next r = 45 := hn
    rcases h2 with h2 | h2
    · exact .inl (union_one (meet_one (less_two h1 hn h2) (next_end (by decide))) (next_end (by decide)))
    · exact .inr (union_deep hb (meet_deep hb (less_deep2 h1 hn h2)))
end Gr
end Go.Proofs.YtbphmaoomnocmaaDoor

namespace Go.Proofs.YtbphmaoomnocmaaDoor
open Go.RowKit
namespace Sg

theorem byte_head {l : List UInt8} (h : l ≠ []) {n : Nat} (hn : (Gly.dec l).1 = n) (h128 : n < 128) : ∃ t, l = n.toUInt8 :: t ∧ (Gly.dec l).2 = 1 := by
  have hb : Gly.byte l 0 < 128 := by
    apply Classical.byContradiction
    intro hc
    have := Gly.dec_high h (by omega)
    omega
  have hd := Gly.dec_low h hb
  match l, h with
  | c :: t, _ =>
    rw [hd] at hn
    simp only at hn
    refine ⟨t, ?_, by rw [hd]⟩
    have e : c.toNat = n := hn
    rw [← e]
    simp
theorem slashes : ∀ (k : Nat) (l : List UInt8) (q : List Nat), l.length ≤ k → Gly.runes l = some q → [47, 47] <:+: q → ∃ j, j ≤ l.length ∧ Lib.occAt l [47, 47] j = true
  | k, l, q, hk, hq, hi => by
    by_cases h : l = []
    · subst h
      rw [Gly.runes_nil] at hq
      obtain rfl := Option.some.inj hq
      obtain ⟨a, b, hab⟩ := hi
      simp at hab
    · have hb := Gly.runes_good hq h
      have hw := Gly.dec_width l h
      rw [Gly.runes_step h hb] at hq
      cases hu : Gly.runes (l.drop (Gly.dec l).2) with
      | none => rw [hu] at hq; cases hq
      | some u =>
        rw [hu] at hq
        have hq : (Gly.dec l).1 :: u = q := Option.some.inj hq
        rw [← hq, List.infix_cons_iff] at hi
        rcases hi with hi | hi
        · obtain ⟨c, hc⟩ := hi
          have h1 : (Gly.dec l).1 = 47 := (List.cons.inj hc).1.symm
          have h2 : u = 47 :: c := (List.cons.inj hc).2.symm
          obtain ⟨t, rfl, hw1⟩ := byte_head h h1 (by decide)
          rw [hw1, List.drop_succ_cons, List.drop_zero] at hu
          have ht : t ≠ [] := by
            rintro rfl
            rw [Gly.runes_nil] at hu
            have := Option.some.inj hu
            rw [h2] at this
            cases this
          have hbt := Gly.runes_good hu ht
          rw [Gly.runes_step ht hbt] at hu
          cases hv : Gly.runes (t.drop (Gly.dec t).2) with
          | none => rw [hv] at hu; cases hu
          | some v =>
            rw [hv, h2] at hu
            have h3 : (Gly.dec t).1 = 47 := (List.cons.inj (Option.some.inj hu)).1
            obtain ⟨t2, rfl, -⟩ := byte_head ht h3 (by decide)
            exact ⟨0, Nat.zero_le _, rfl⟩
        · have hl := Gly.drop_lt h
          match k with
          | 0 => exact absurd (List.eq_nil_of_length_eq_zero (Nat.le_zero.1 hk)) h
          | k + 1 =>
            obtain ⟨j, hj, ho⟩ := slashes k _ u (by omega) hu hi
            refine ⟨(Gly.dec l).2 + j, by rw [List.length_drop] at hj; omega, ?_⟩
            unfold Lib.occAt at ho ⊢
            rwa [List.drop_drop] at ho
theorem no_slashes {l : List UInt8} {q : List Nat} (h : Lib.contains l [47, 47] = false) (hq : Gly.runes l = some q) : ¬ [47, 47] <:+: q := fun hi => by
  obtain ⟨j, hj, ho⟩ := slashes l.length l q (Nat.le_refl _) hq hi
  have h0 : ¬ 0 ≤ Lib.index l [47, 47] := by simpa [Lib.contains] using h
  rcases Lib.index_spec l [47, 47] with ⟨-, hn⟩ | ⟨i, e, -⟩
  · rw [hn j hj] at ho; cases ho
  · omega
end Sg
end Go.Proofs.YtbphmaoomnocmaaDoor

namespace Go.Proofs.YtbphmaoomnocmaaDoor
open Go.RowKit
namespace Gr
open Tr (Nd none0)
open Sg (Tok kt)

theorem byte_append {a : List UInt8} (b : List UInt8) {j : Nat} (h : j < a.length) : Gly.byte (a ++ b) j = Gly.byte a j := by
  unfold Gly.byte
  rw [List.getD, List.getD, List.getElem?_append_left h]
theorem runes_append : ∀ (k : Nat) (a b : List UInt8) (x : List Nat), a.length ≤ k → Gly.runes a = some x → Gly.runes (a ++ b) = (Gly.runes b).map (x ++ ·)
  | k, a, b, x, hk, hx => by
    by_cases h : a = []
    · subst h; rw [Gly.runes_nil] at hx; cases hx
      cases hb : Gly.runes b <;> simp [hb]
    · have hb := Gly.runes_good hx h
      have hw := Gly.dec_width a h
      have hl := Gly.drop_lt h
      obtain ⟨k, rfl⟩ : ∃ j, k = j + 1 := ⟨k - 1, by omega⟩
      have hd : Gly.dec (a ++ b) = Gly.dec a := Gly.dec_same h hb (by rw [List.length_append]; omega) fun j hj => byte_append b (by omega)
      have hne : a ++ b ≠ [] := by simp [h]
      have hb2 : Gly.bad (a ++ b) = false := by rw [Gly.bad, hd]; exact hb
      rw [Gly.runes_step h hb] at hx
      cases hu : Gly.runes (a.drop (Gly.dec a).2) with
      | none => rw [hu] at hx; cases hx
      | some u =>
        rw [hu] at hx; cases hx
        rw [Gly.runes_step hne hb2, hd, List.drop_append_of_le_length (by omega), runes_append k _ b u (by omega) hu, Option.map_map]
        rfl
theorem runes_join {a b : List UInt8} {x : List Nat} (h : Gly.runes a = some x) : Gly.runes (a ++ b) = (Gly.runes b).map (x ++ ·) := runes_append _ a b x (Nat.le_refl _) h
/-- A text that is an expression. -/
theorem expr_good {s : ByteArray} (h : (exprA s).2.2 = 0) : ∃ q, Gly.runes s.data.toList = some q ∧ q.length ≤ 3000 ∧ (Sg.lex (1, 1) q).2.2 = true ∧ union ⟨kt (Sg.lex (1, 1) q).1, 0⟩ = ((exprA s).1, ⟨[], 0⟩) := by
  unfold exprA at h ⊢
  by_cases h0 : (Sg.ans (Gly.runes s.data.toList)).1 = 0
  · obtain ⟨q, hq, hl, hok, ha, -, hk⟩ := ans_toks h0
    rw [ha] at h ⊢
    refine ⟨q, hq, hl, hok, ?_⟩
    by_cases hf : (fin (union ⟨kt (Sg.lex (1, 1) q).1, 0⟩).2).err = 0
    · have hao : (answer zeroN union (0, (Sg.lex (1, 1) q).2.1, (Sg.lex (1, 1) q).1)).1 = (union ⟨kt (Sg.lex (1, 1) q).1, 0⟩).1 := by
        rw [answer, if_pos rfl]
        simp only
        rw [done, if_pos hf]
      rw [hao]
      have h1 : next (union ⟨kt (Sg.lex (1, 1) q).1, 0⟩).2 = 0 := by
        apply Classical.byContradiction
        intro hn
        rw [fin, if_pos hn] at hf
        exact fail_err (by decide) hf
      have h2 : (union ⟨kt (Sg.lex (1, 1) q).1, 0⟩).2.err = 0 := by
        rw [fin, if_neg (fun e => e h1)] at hf
        exact hf
      have hsuf := uni_fine.suf ⟨kt (Sg.lex (1, 1) q).1, 0⟩
      have h3 : (union ⟨kt (Sg.lex (1, 1) q).1, 0⟩).2.rest = [] := by
        cases hr : (union ⟨kt (Sg.lex (1, 1) q).1, 0⟩).2.rest with
        | nil => rfl
        | cons t r =>
          rw [next, if_pos h2, hr] at h1
          have ht : t ∈ kt (Sg.lex (1, 1) q).1 := hsuf.subset (by rw [hr]; simp)
          rw [kt, List.mem_map] at ht
          obtain ⟨u, hu, rfl⟩ := ht
          exact absurd h1 (hk u hu).2
      generalize union ⟨kt (Sg.lex (1, 1) q).1, 0⟩ = r at *
      obtain ⟨x, ⟨rest, er⟩⟩ := r
      simp only at h2 h3
      subst h2 h3
      rfl
    · exfalso
      rw [answer, if_pos rfl] at h
      simp only at h
      rw [done, if_neg hf] at h
      simp only at h
      exact hf (by omega)
  · exfalso
    rw [answer, if_neg h0] at h
    exact h0 h
/-- The signs, as bytes, and their nodes' kinds. -/
def mids : List (List UInt8 × Int) := [([124], 4), ([38], 5), ([32, 45, 32], 6)]
theorem runes_one {b : UInt8} (h : b.toNat < 128) (l : List UInt8) : Gly.runes (b :: l) = (Gly.runes l).map ([b.toNat] ++ ·) := by
  have hd : Gly.dec (b :: l) = (b.toNat, 1) := by rw [Gly.dec_def, Lib.decodeN, if_pos (by simpa [Gly.byte] using h)]; rfl
  have hbad : Gly.bad (b :: l) = false := by
    rw [Gly.bad, hd]; simp; omega
  rw [Gly.runes_step (by simp) hbad, hd]
  show Option.map (fun t => (b.toNat, 1).1 :: t) (Gly.runes l) = _
  cases Gly.runes l <;> rfl
theorem bytes_len : ∀ (k : Nat) (l : List UInt8) (q : List Nat), l.length ≤ k → Gly.runes l = some q → q.length ≤ l.length
  | k, l, q, hk, hq => by
    by_cases h : l = []
    · subst h; rw [Gly.runes_nil] at hq; rw [← Option.some.inj hq]; simp
    · have hb := Gly.runes_good hq h
      have hw := Gly.dec_width l h
      have hl := Gly.drop_lt h
      rw [Gly.runes_step h hb] at hq
      cases hu : Gly.runes (l.drop (Gly.dec l).2) with
      | none => rw [hu] at hq; cases hq
      | some u =>
        rw [hu] at hq
        rw [← Option.some.inj hq]
        match k with
        | 0 => exact absurd (List.eq_nil_of_length_eq_zero (Nat.le_zero.1 hk)) h
        | k + 1 =>
          have := bytes_len k _ u (by omega) hu
          rw [List.length_cons]
          omega
/-- An answer out of what is read. -/
theorem answer_of {q : List Nat} {x : Nd} (hl : q.length ≤ 3000) (hok : (Sg.lex (1, 1) q).2.2 = true) :
    (union ⟨kt (Sg.lex (1, 1) q).1, 0⟩ = (x, ⟨[], 0⟩) → (answer zeroN union (Sg.ans (some q))).2.2 = 0 ∧ (answer zeroN union (Sg.ans (some q))).1 = x) ∧
    ((union ⟨kt (Sg.lex (1, 1) q).1, 0⟩).2.err = 12 → (answer zeroN union (Sg.ans (some q))).2.2 = 12) := by
  rw [Sg.ans_ok (by omega) hok]
  refine ⟨fun h => ?_, fun h => ?_⟩
  · have hf : (fin (union ⟨kt (Sg.lex (1, 1) q).1, 0⟩).2).err = 0 := by rw [h]; rfl
    rw [answer, if_pos rfl]
    simp only
    rw [done, if_pos hf, h]
    exact ⟨rfl, rfl⟩
  · have hf : (fin (union ⟨kt (Sg.lex (1, 1) q).1, 0⟩).2).err = 12 := by
      rw [fin, if_neg (fun e => e (next_bad (by rw [h]; decide)))]
      exact h
    rw [answer, if_pos rfl]
    simp only
    rw [done, if_neg (by rw [hf]; decide)]
    simp only
    rw [hf]; rfl
theorem joint_text {s t m j : List UInt8} {k : Int} {q u : List Nat} (hq : Gly.runes s = some q) (hu : Gly.runes t = some u) (h1 : Lib.contains s [47, 47] = false) (h2 : Lib.contains t [47, 47] = false) (hz : s.length ≤ 1000) (hz2 : t.length ≤ 1000)
    (ho1 : (Sg.lex (1, 1) q).2.2 = true) (ho2 : (Sg.lex (1, 1) u).2.2 = true) {x y : Nd} (hx : union ⟨kt (Sg.lex (1, 1) q).1, 0⟩ = (x, ⟨[], 0⟩)) (hy : union ⟨kt (Sg.lex (1, 1) u).1, 0⟩ = (y, ⟨[], 0⟩))
    (hm : (m, k) ∈ mids) (hj : j = 40 :: (s ++ 41 :: (m ++ 40 :: (t ++ [41])))) :
    (answer zeroN union (Sg.ans (Gly.runes j))).2.2 = 12 ∨ ((answer zeroN union (Sg.ans (Gly.runes j))).2.2 = 0 ∧ (answer zeroN union (Sg.ans (Gly.runes j))).1 = .mk k none0 none0 [x, y]) := by
  have l1 := bytes_len _ s q (Nat.le_refl _) hq
  have l2 := bytes_len _ t u (Nat.le_refl _) hu
  obtain ⟨mm, hmm, hrm, hk⟩ : ∃ mm ∈ Sg.between, (∀ r, Gly.runes (m ++ r) = (Gly.runes r).map (mm.1 ++ ·)) ∧ ∃ e ∈ signs3, mm.2 = [(e.1, e.2.1)] ∧ k = e.2.2 ∧ mm.1.length ≤ 3 := by
    simp only [mids, List.mem_cons, List.not_mem_nil, or_false, Prod.mk.injEq] at hm
    rcases hm with ⟨rfl, rfl⟩ | ⟨rfl, rfl⟩ | ⟨rfl, rfl⟩
    · exact ⟨([124], [(124, [124])]), by decide, fun r => runes_one (b := 124) (by decide) r, (124, [124], 4), by decide, rfl, rfl, by decide⟩
    · exact ⟨([38], [(38, [38])]), by decide, fun r => runes_one (b := 38) (by decide) r, (38, [38], 5), by decide, rfl, rfl, by decide⟩
    · refine ⟨([32, 45, 32], [(45, [45])]), by decide, fun r => ?_, (45, [45], 6), by decide, rfl, rfl, by decide⟩
      rw [List.cons_append, runes_one (by decide), List.cons_append, runes_one (by decide), List.cons_append, runes_one (by decide), List.nil_append]
      cases Gly.runes r <;> rfl
  obtain ⟨e, he, hke, rfl, hlm⟩ := hk
  have hr : Gly.runes j = some (40 :: (q ++ 41 :: (mm.1 ++ 40 :: (u ++ [41])))) := by
    rw [hj, runes_one (by decide), runes_join hq, runes_one (by decide), hrm, runes_one (by decide), runes_join hu, runes_one (by decide), Gly.runes_nil]
    rfl
  have hlen : (40 :: (q ++ 41 :: (mm.1 ++ 40 :: (u ++ [41])))).length ≤ 3000 := by
    simp only [List.length_cons, List.length_append, List.length_nil]
    omega
  obtain ⟨k1, k2⟩ := Sg.lex_joint hmm (Sg.no_slashes h1 hq) (Sg.no_slashes h2 hu) ho1 ho2
  have hjt := joint hx hy he
  rw [hke] at k1
  have k3 : kt (Sg.lex (1, 1) (40 :: (q ++ 41 :: (mm.1 ++ 40 :: (u ++ [41]))))).1 = B (kt (Sg.lex (1, 1) q).1) ((e.1, e.2.1) :: B (kt (Sg.lex (1, 1) u).1) []) := k1
  rw [← k3] at hjt
  rw [hr]
  rcases hjt with h | h
  · exact .inr ((answer_of hlen k2).1 h)
  · exact .inl ((answer_of (x := x) hlen k2).2 h)
end Gr
end Go.Proofs.YtbphmaoomnocmaaDoor

namespace Go.Proofs.YtbphmaoomnocmaaDoor
open Go.RowKit
namespace Gr
open Tr (Nd none0)
open Sg (Tok kt)

theorem name_of : ∀ (l : List Nat), (∀ r ∈ l, Sg.inWord r = true) → Gly.nameOk false (l.map Nat.toUInt8) = true
  | [], _ => rfl
  | r :: l, h => by
    have hr := h r (by simp)
    have hlow := Sg.inWord_low hr
    rw [List.map_cons, Gly.nameOk, name_of l fun x hx => h x (by simp [hx])]
    have e : r.toUInt8.toNat = r := by simp; omega
    rw [e]
    simp only [Sg.inWord, decide_eq_true_eq] at hr
    simp only [Gly.letterB, Gly.digitB, Bool.and_true, Bool.not_false, Bool.true_and, Bool.or_eq_true, decide_eq_true_eq, beq_iff_eq]
    omega
theorem name_first {r : Nat} {l : List Nat} (hr : Sg.letter r = true) (h : ∀ x ∈ l, Sg.inWord x = true) : Gly.nameOk true ((r :: l).map Nat.toUInt8) = true := by
  have hlow := Sg.inWord_low (Sg.letter_inWord hr)
  rw [List.map_cons, Gly.nameOk, name_of l h]
  have e : r.toUInt8.toNat = r := by simp; omega
  rw [e]
  simp only [Sg.letter, decide_eq_true_eq] at hr
  simp only [Gly.letterB, Bool.and_true, Bool.not_true, Bool.false_and, Bool.or_false, decide_eq_true_eq]
  omega
theorem map_inj {a b : List Nat} (ha : ∀ r ∈ a, r < 128) (hb : ∀ r ∈ b, r < 128) (h : a.map Nat.toUInt8 = b.map Nat.toUInt8) : a = b := by
  have key : ∀ l : List Nat, (∀ r ∈ l, r < 128) → (l.map Nat.toUInt8).map UInt8.toNat = l := by
    intro l
    induction l with
    | nil => intro _; rfl
    | cons r l ih =>
      intro hl
      have hr := hl r (by simp)
      rw [List.map_cons, List.map_cons, ih fun x hx => hl x (by simp [hx])]
      congr 1
      simp; omega
  rw [← key a ha, ← key b hb, h]
theorem piece_word {r : Nat} {t : List Nat} (h : (Sg.piece (r :: t)).1 = 1) : Tr.word (txt ((r :: t).take (Sg.piece (r :: t)).2)) = true := by
  rcases Sg.piece_cases r t with ⟨_, e⟩ | ⟨_, _, _, e⟩ | ⟨_, hl, _, _, hn, e⟩ | ⟨_, _, _, _, _, e⟩ | ⟨_, _, _, _, e⟩ | ⟨_, _, hs, _, e⟩ | ⟨_, _, _, _, e⟩
  · rw [e] at h; simp at h
  · rw [e] at h; simp at h
  · rw [e] at h ⊢
    simp only at h ⊢
    have hin := Sg.letter_inWord hl
    have hall := Sg.run_all (f := Sg.inWord) (q := r :: t)
    have hlen := Sg.run_le Sg.inWord (r :: t)
    have hpos : 1 ≤ Sg.run Sg.inWord (r :: t) := by rw [Sg.run_cons t hin]; omega
    generalize Sg.run Sg.inWord (r :: t) = n at *
    obtain ⟨m, rfl⟩ : ∃ m, n = m + 1 := ⟨n - 1, by omega⟩
    rw [List.take_succ_cons] at h hall ⊢
    have hlow : ∀ x ∈ r :: t.take m, x < 128 := fun x hx => Sg.inWord_low (hall x hx)
    have hne : ∀ w : List Nat, (∀ x ∈ w, x < 128) → r :: t.take m ≠ w → ((r :: t.take m).map Nat.toUInt8 == w.map Nat.toUInt8) = false := fun w hw hne => by
      rw [beq_eq_false_iff_ne]
      exact fun e => hne (map_inj hlow hw e)
    unfold Sg.kindOf at h
    split at h
    · simp at h
    · rename_i n1
      split at h
      · simp at h
      · rename_i n2
        split at h
        · simp at h
        · rename_i n3
          have q1 := hne [116, 121, 112, 101] (by decide) n1
          have q2 := hne [114, 101, 108] (by decide) n2
          have q3 := hne [116, 104, 105, 115] (by decide) n3
          have hnm : Gly.nameB ((r :: t.take m).map Nat.toUInt8) = true := by
            rw [Gly.nameB, name_first hl fun x hx => hall x (by simp [hx])]
            simp only [List.length_map, List.length_cons, Bool.and_true, decide_eq_true_eq, List.length_take]
            omega
          show Tr.word ⟨((r :: t.take m).map Nat.toUInt8).toArray⟩ = true
          unfold Tr.word
          simp only
          rw [hnm]
          have q1' : ((r :: t.take m).map Nat.toUInt8 == [116, 121, 112, 101]) = false := q1
          have q2' : ((r :: t.take m).map Nat.toUInt8 == [114, 101, 108]) = false := q2
          have q3' : ((r :: t.take m).map Nat.toUInt8 == [116, 104, 105, 115]) = false := q3
          rw [q1', q2', q3']
          rfl
  · rw [e] at h; simp at h
  · rw [e] at h; simp at h
  · rw [e] at h
    have := (Sg.sign_low hs).2.2.2.2
    simp only at h
    omega
  · rw [e] at h; simp at h
theorem lex_words : ∀ (k : Nat) (q : List Nat) (p : Nat × Nat), q.length ≤ k → ∀ t ∈ (Sg.lex p q).1, t.kind = 1 → Tr.word (txt t.text) = true
  | k, q, p, hk => by
    by_cases h : q = []
    · subst h; rw [Sg.lex_nil]; intro t ht; cases ht
    · by_cases h0 : (Sg.piece q).1 = 0
      · rw [Sg.lex_bad h h0]; intro t ht; cases ht
      · have h1 := Sg.piece_pos h0
        have hle := Sg.piece_le q
        have hl : (q.drop (Sg.piece q).2).length = q.length - (Sg.piece q).2 := List.length_drop ..
        have hpos := List.length_pos_iff.2 h
        match k with
        | 0 => omega
        | k + 1 =>
          have ih := lex_words k (q.drop (Sg.piece q).2) (Sg.behinds p (q.take (Sg.piece q).2)) (by omega)
          by_cases hg : (Sg.piece q).1 = -1
          · rw [Sg.lex_gap h hg]
            exact ih
          · rw [Sg.lex_tok h h0 hg]
            intro t ht
            rcases List.mem_cons.1 ht with rfl | ht
            · intro hk1
              match q, h with
              | r :: u, _ => exact piece_word hk1
            · exact ih t ht
theorem words_of (q : List Nat) (p : Nat × Nat) : Words (kt (Sg.lex p q).1) := fun t ht hk => by
  rw [kt, List.mem_map] at ht
  obtain ⟨u, hu, rfl⟩ := ht
  exact lex_words q.length q p (Nat.le_refl _) u hu hk
/-- A text's expression is a good node, and not greater than its tokens. -/
theorem expr_size {s : ByteArray} (h : (exprA s).2.2 = 0) : Tr.good (exprA s).1 = true ∧ Tr.size (exprA s).1 ≤ 6000 := by
  obtain ⟨q, hq, hl, hok, hu⟩ := expr_good h
  obtain ⟨-, h2, h3⟩ := uni_reads.good ⟨kt (Sg.lex (1, 1) q).1, 0⟩ (words_of q (1, 1)) (by rw [hu])
  rw [hu] at h2 h3
  refine ⟨h2, ?_⟩
  simp only at h3
  have := (Sg.lex_tells q.length q (1, 1) (Nat.le_refl _)).2
  have h4 := Sg.again_len (Sg.lex (1, 1) q).1
  rw [Sg.kt_len] at h3
  omega
end Gr
end Go.Proofs.YtbphmaoomnocmaaDoor
