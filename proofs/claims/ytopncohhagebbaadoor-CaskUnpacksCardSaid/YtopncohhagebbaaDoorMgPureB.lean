/-
  Plain mathematics of layer 7 (grammar): more tokens behind; more brackets that may be opened; tokens of texts within brackets, and one behind another; two expressions with a sign between; words and sizes.
  Plain mathematics of layer 7 (grammar): the text of a configuration behind another's, with a line's end between them.
  Plain mathematics under the document's answers of layer 1 (stileref01): what its Rune computes is the decoder's rune, by the kinds of first bytes.
  Plain mathematics of layer 8 (canon): the tokens of an expression's one text, and how they are read.
  Plain mathematics of layer 8 (canon): an expression's one text, as bytes; its tokens; it is read as that expression.
  Plain mathematics of layer 8 (canon): a configuration's one text, as bytes; its tokens; it is parsed as that configuration.
  Plain mathematics of layer 8 (canon): texts, one part behind another; bounds of their lengths.
-/
import Derived.Test.YtopncohhagebbaaDoorMgPure
import Derived.Lib.IndexMore
namespace Go.Proofs.YtopncohhagebbaaDoor
open Go.RowKit
namespace Gr
open Tr (Nd none0)
open Sg (Tok kt)

/-- The signs that a part looks for behind what it has read. -/
def looks : List Int := [5, 45, 38, 124, 35, 58, 44, 3]
def Soft (B : List K) : Prop := ∀ k ∈ looks, headK B ≠ k
def Cond (r B : List K) : Prop := r ≠ [] ∨ Soft B
theorem Cond.suf {r r1 B : List K} (h : Cond r B) (hs : r <:+ r1) : Cond r1 B := by
  rcases h with h | h
  · exact .inl fun e => h (by rw [e] at hs; exact List.suffix_nil.1 hs)
  · exact .inr h
def app (s : St) (B : List K) : St := ⟨s.rest ++ B, s.err⟩
theorem next_app {s : St} {B : List K} (h : Cond s.rest B) {k : Int} (hk : k ∈ looks) (hk0 : k ≠ 0) : next (app s B) = k ↔ next s = k := by
  unfold next app
  by_cases he : s.err = 0
  · rw [if_pos he, if_pos he]
    cases hr : s.rest with
    | cons t r => rfl
    | nil =>
      rcases h with h | h
      · exact absurd hr h
      · rw [List.nil_append]
        exact ⟨fun e => absurd e (h k hk), fun e => absurd e.symm hk0⟩
  · rw [if_neg he, if_neg he]
theorem next_more {s : St} {B : List K} (h : next s ≠ 0) : next (app s B) = next s := by
  obtain ⟨he, t, r, hr, -⟩ := next_good h
  unfold next app
  rw [if_pos he, if_pos he, hr]; rfl
theorem tl_app {s : St} {B : List K} (h : next s ≠ 0) : tl (app s B) = app (tl s) B := by
  obtain ⟨he, t, r, hr, -⟩ := next_good h
  unfold tl app
  rw [hr]; rfl
theorem need_app {s : St} {B : List K} {k : Int} (hk : k ≠ 0) (h : (need s k).err = 0) : need (app s B) k = app (need s k) B := by
  obtain ⟨-, hn, -, -⟩ := need_good hk h
  have hn0 : next s ≠ 0 := by rw [hn]; exact hk
  unfold need
  rw [if_pos hn, if_pos (by rw [next_more hn0]; exact hn), tl_app hn0]
theorem word_app {s : St} {B : List K} (h : (word s).2.err = 0) : word (app s B) = ((word s).1, app (word s).2 B) := by
  by_cases hn : next s = 1
  · have hn0 : next s ≠ 0 := by rw [hn]; decide
    obtain ⟨he, t, r, hr, -⟩ := next_good hn0
    unfold word
    rw [if_pos hn, if_pos (by rw [next_more hn0]; exact hn), tl_app hn0]
    unfold app
    rw [hr]; rfl
  · rw [word, if_neg hn] at h
    exact absurd h (fail_err (by decide))
/-- More tokens behind change nothing. -/
def Ext {α : Type} (p : St → α × St) : Prop := ∀ s B, (p s).2.err = 0 → Cond (p s).2.rest B → p (app s B) = ((p s).1, app (p s).2 B)
section
variable {α : Type} {one : St → α × St} {k : Int}
theorem eachs_ext' (hp : Ext one) (hf : Fine one) (hk : k ∈ looks) (hk0 : k ≠ 0) : ∀ (n : Nat) (s : St) (B : List K), s.rest.length ≤ n → (eachs one k s).2.err = 0 → Cond (eachs one k s).2.rest B → eachs one k (app s B) = ((eachs one k s).1, app (eachs one k s).2 B)
  | n, s, B, hn, he, hc => by
    by_cases h : next s = k
    · have h0 : next s ≠ 0 := by rw [h]; exact hk0
      have hl := tl_len h0
      have hs := (hf.suf (tl s)).length_le
      rw [eachs_on hf hk0 h] at he hc ⊢
      simp only at he hc ⊢
      have hsuf := (eachs_fine hf hk0).suf (one (tl s)).2
      have he1 := (eachs_fine hf hk0).err0 he
      have h1 := hp (tl s) B he1 (hc.suf hsuf)
      match n with
      | 0 => omega
      | n + 1 =>
        have h2 := eachs_ext' hp hf hk hk0 n (one (tl s)).2 B (by omega) he hc
        rw [eachs_on hf hk0 (by rw [next_more h0]; exact h), tl_app h0, h1]
        simp only
        rw [h2]
    · rw [eachs_off h] at he hc ⊢
      rw [eachs_off fun e => h ((next_app hc hk hk0).1 e)]
theorem eachs_ext (hp : Ext one) (hf : Fine one) (hk : k ∈ looks) (hk0 : k ≠ 0) : Ext (eachs one k) := fun s B he hc => eachs_ext' hp hf hk hk0 _ s B (Nat.le_refl _) he hc
theorem list_ext (hp : Ext one) (hf : Fine one) (hk : k ∈ looks) (hk0 : k ≠ 0) : Ext (list one k) := fun s B he hc => by
  have he' : (eachs one k (one s).2).2.err = 0 := he
  have hc' : Cond (eachs one k (one s).2).2.rest B := hc
  have h1 := hp s B ((eachs_fine hf hk0).err0 he') (hc'.suf ((eachs_fine hf hk0).suf _))
  have h2 := eachs_ext hp hf hk hk0 (one s).2 B he' hc'
  rw [list, list, h1]
  simp only
  rw [h2]
end
theorem atom_ext {br : P} (hb : Ext br) : Ext (atomOf br) := fun s B he hc => by
  unfold atomOf at he hc ⊢
  by_cases h4 : next s = 4
  · have h0 : next s ≠ 0 := by rw [h4]; decide
    rw [if_pos h4]
    rw [if_pos (by rw [next_more h0]; exact h4), tl_app h0]
  · rw [if_neg h4] at he hc ⊢
    by_cases h40 : next s = 40
    · have h0 : next s ≠ 0 := by rw [h40]; decide
      rw [if_pos h40] at he hc ⊢
      rw [if_neg (by rw [next_more h0]; exact h4), if_pos (by rw [next_more h0]; exact h40)]
      exact hb s B he hc
    · rw [if_neg h40] at he hc ⊢
      have hw : (word s).2.err = 0 := by
        by_cases h5 : next (word s).2 = 5
        · exact (next_good (s := (word s).2) (by rw [h5]; decide)).1
        · rw [if_neg h5] at he; exact he
      have hn1 : next s = 1 := by
        apply Classical.byContradiction
        intro hn
        rw [word, if_neg hn] at hw
        exact fail_err (by decide) hw
      have h0 : next s ≠ 0 := by rw [hn1]; decide
      have e := next_more (B := B) h0
      rw [if_neg (by rw [e]; exact h4), if_neg (by rw [e]; exact h40), word_app hw]
      simp only
      by_cases h5 : next (word s).2 = 5
      · have h05 : next (word s).2 ≠ 0 := by rw [h5]; decide
        rw [if_pos h5] at he hc ⊢
        rw [if_pos (by rw [next_more h05]; exact h5), tl_app h05, word_app he]
      · rw [if_neg h5] at he hc ⊢
        rw [if_neg fun e => h5 ((next_app hc (by decide) (by decide)).1 e)]
theorem less_ext {br : P} (hb : Ext br) (hf : Fine br) : Ext (lessOf br) := fun s B he hc => by
  have ha := atom_ext hb
  have hfa := atom_fine hf
  unfold lessOf at he hc ⊢
  by_cases hn : next (atomOf br s).2 = 45
  · have h0 : next (atomOf br s).2 ≠ 0 := by rw [hn]; decide
    rw [if_pos hn] at he hc ⊢
    simp only at he hc
    obtain ⟨e1, t, r, hr, -⟩ := next_good h0
    have h1 := ha s B e1 (.inl (by rw [hr]; simp))
    have h2 := ha (tl (atomOf br s).2) B he hc
    rw [h1]
    simp only
    rw [if_pos (by rw [next_more h0]; exact hn), tl_app h0, h2]
  · rw [if_neg hn] at he hc ⊢
    have h1 := ha s B he hc
    rw [h1]
    simp only
    rw [if_neg fun e => hn ((next_app hc (by decide) (by decide)).1 e)]
theorem meet_ext {br : P} (hb : Ext br) (hf : Fine br) : Ext (meetOf br) := fun s B he hc => by
  have h := list_ext (less_ext hb hf) (less_fine hf) (k := 38) (by decide) (by decide) s B he hc
  unfold meetOf
  rw [h]
theorem union_ext {br : P} (hb : Ext br) (hf : Fine br) : Ext (unionOf br) := fun s B he hc => by
  have h := list_ext (meet_ext hb hf) (meet_fine hf) (k := 124) (by decide) (by decide) s B he hc
  unfold unionOf
  rw [h]
theorem brk_ext : ∀ d, Ext (brk d)
  | 0 => fun s B he _ => absurd he (fail_err (by decide))
  | d + 1 => fun s B he hc => by
    have hu := union_ext (brk_ext d) (brk_fine d)
    rw [brk] at he hc ⊢
    simp only at he hc
    obtain ⟨e1, hn, hne, -⟩ := need_good (by decide) he
    have e2 := (union_fine (brk_fine d)).err0 e1
    have h0 : next (unionOf (brk d) (need s 40)).2 ≠ 0 := by rw [hn]; decide
    obtain ⟨-, t, r, hr, -⟩ := next_good h0
    have h1 := hu (need s 40) B e1 (.inl (by rw [hr]; simp))
    rw [brk, need_app (by decide) e2, h1]
    simp only
    rw [need_app (by decide) he]
theorem uni_ext : Ext union := union_ext (brk_ext 8) (brk_fine 8)

/-! ### fewer brackets -/
/-- One reads as the other, or finds too many brackets. -/
def Dp {α : Type} (p q : St → α × St) : Prop := ∀ s, p s = q s ∨ (p s).2.err = 12
section
variable {α : Type} {p q : St → α × St} {k : Int}
theorem eachs_dp' (h : Dp p q) (hp : Fine p) (hq : Fine q) (hk0 : k ≠ 0) : ∀ (n : Nat) (s : St), s.rest.length ≤ n → eachs p k s = eachs q k s ∨ (eachs p k s).2.err = 12
  | n, s, hn => by
    by_cases hx : next s = k
    · have h0 : next s ≠ 0 := by rw [hx]; exact hk0
      have hl := tl_len h0
      have hs := (hp.suf (tl s)).length_le
      rw [eachs_on hp hk0 hx, eachs_on hq hk0 hx]
      match n with
      | 0 => omega
      | n + 1 =>
        rcases h (tl s) with h1 | h1
        · rw [← h1]
          rcases eachs_dp' h hp hq hk0 n (p (tl s)).2 (by omega) with h2 | h2
          · rw [h2]; exact .inl rfl
          · exact .inr h2
        · refine .inr ?_
          simp only
          rw [(eachs_fine hp hk0).err _ (by rw [h1]; decide)]
          exact h1
    · rw [eachs_off hx, eachs_off hx]; exact .inl rfl
theorem list_dp (h : Dp p q) (hp : Fine p) (hq : Fine q) (hk0 : k ≠ 0) : Dp (list p k) (list q k) := fun s => by
  unfold list
  rcases h s with h1 | h1
  · rw [← h1]
    rcases eachs_dp' h hp hq hk0 _ (p s).2 (Nat.le_refl _) with h2 | h2
    · rw [h2]; exact .inl rfl
    · exact .inr h2
  · refine .inr ?_
    simp only
    rw [(eachs_fine hp hk0).err _ (by rw [h1]; decide)]
    exact h1
end
/-- At a bracket. -/
def DpB (p q : P) : Prop := ∀ s, next s = 40 → p s = q s ∨ (p s).2.err = 12
theorem atom_dp {p q : P} (h : DpB p q) : Dp (atomOf p) (atomOf q) := fun s => by
  unfold atomOf
  by_cases h4 : next s = 4
  · rw [if_pos h4, if_pos h4]; exact .inl rfl
  rw [if_neg h4, if_neg h4]
  by_cases h40 : next s = 40
  · rw [if_pos h40, if_pos h40]; exact h s h40
  · rw [if_neg h40, if_neg h40]; exact .inl rfl
theorem less_dp {p q : P} (h : DpB p q) : Dp (lessOf p) (lessOf q) := fun s => by
  have ha := atom_dp h
  unfold lessOf
  rcases ha s with h1 | h1
  · rw [← h1]
    by_cases hn : next (atomOf p s).2 = 45
    · rw [if_pos hn, if_pos hn]
      rcases ha (tl (atomOf p s).2) with h2 | h2
      · rw [← h2]; exact .inl rfl
      · exact .inr h2
    · rw [if_neg hn, if_neg hn]
      exact .inl rfl
  · have hn : next (atomOf p s).2 ≠ 45 := by rw [next_bad (by rw [h1]; decide)]; decide
    rw [if_neg hn]
    exact .inr h1
theorem meet_dp {p q : P} (h : DpB p q) (hp : Fine p) (hq : Fine q) : Dp (meetOf p) (meetOf q) := fun s => by
  unfold meetOf
  rcases list_dp (less_dp h) (less_fine hp) (less_fine hq) (k := 38) (by decide) s with h1 | h1
  · rw [h1]; exact .inl rfl
  · exact .inr h1
theorem union_dp {p q : P} (h : DpB p q) (hp : Fine p) (hq : Fine q) : Dp (unionOf p) (unionOf q) := fun s => by
  unfold unionOf
  rcases list_dp (meet_dp h hp hq) (meet_fine hp) (meet_fine hq) (k := 124) (by decide) s with h1 | h1
  · rw [h1]; exact .inl rfl
  · exact .inr h1
theorem brk_dp : ∀ d, DpB (brk d) (brk (d + 1))
  | 0 => fun s hs => by
    have he := (next_good (s := s) (by rw [hs]; decide)).1
    refine .inr ?_
    show (fail s 12).err = 12
    rw [fail, if_pos he]
  | d + 1 => fun s _ => by
    rcases union_dp (brk_dp d) (brk_fine d) (brk_fine (d + 1)) (need s 40) with h | h
    · refine .inl ?_
      rw [brk, brk, h]
    · refine .inr ?_
      rw [brk]
      simp only
      rw [need_bad (by rw [h]; decide) (by decide)]
      exact h
/-- A text that is an expression, within brackets. -/
theorem in_brackets {A R : List K} {x : Nd} (h : union ⟨A, 0⟩ = (x, ⟨[], 0⟩)) : brk 8 ⟨(40, [40]) :: (A ++ (41, [41]) :: R), 0⟩ = (x, ⟨R, 0⟩) ∨ (brk 8 ⟨(40, [40]) :: (A ++ (41, [41]) :: R), 0⟩).2.err = 12 := by
  have hx : union (app ⟨A, 0⟩ ((41, [41]) :: R)) = (x, app ⟨[], 0⟩ ((41, [41]) :: R)) := by
    have h2 := uni_ext ⟨A, 0⟩ ((41, [41]) :: R) (by rw [h]) (.inr fun k hk e => by
      have : (41 : Int) = k := e
      subst this
      revert hk; decide)
    rw [h] at h2
    exact h2
  have hn : need ⟨(40, [40]) :: (A ++ (41, [41]) :: R), 0⟩ 40 = ⟨A ++ (41, [41]) :: R, 0⟩ := rfl
  rw [show brk 8 _ = _ from rfl, brk, hn]
  rcases union_dp (brk_dp 7) (brk_fine 7) (brk_fine 8) ⟨A ++ (41, [41]) :: R, 0⟩ with h3 | h3
  · have h4 : unionOf (brk 8) ⟨A ++ (41, [41]) :: R, 0⟩ = (x, ⟨(41, [41]) :: R, 0⟩) := hx
    rw [h3, h4]
    exact .inl rfl
  · refine .inr ?_
    simp only
    rw [need_bad (by rw [h3]; decide) (by decide)]
    exact h3
end Gr
end Go.Proofs.YtopncohhagebbaaDoor

namespace Go.Proofs.YtopncohhagebbaaDoor
open Go.RowKit
namespace Sg

theorem run_before {f : Nat → Bool} {y : Nat} (hy : f y = false) (b : List Nat) : ∀ a : List Nat, run f (a ++ y :: b) = run f a
  | [] => by rw [List.nil_append, run_stop _ hy, run_nil]
  | r :: a => by
    cases hr : f r with
    | false => rw [List.cons_append, run_stop _ hr, run_stop _ hr]
    | true => rw [List.cons_append, run_cons _ hr, run_cons _ hr, run_before hy b a]
theorem headD_before {y : Nat} (b t : List Nat) (x : Nat) (hy : y ≠ x) (hx : x ≠ 0) : ((t ++ y :: b).headD 0 = x) = (t.headD 0 = x) := by
  cases t with
  | nil => simp [hy, Ne.symm hx]
  | cons a u => rfl
/-- A piece ahead of a closing bracket. -/
theorem piece_close {r : Nat} {t : List Nat} (b : List Nat) (hb : blank r = false) (hs : ¬ (r = 47 ∧ t.headD 0 = 47)) : piece (r :: (t ++ 41 :: b)) = piece (r :: t) := by
  have hs' : ¬ (r = 47 ∧ (t ++ 41 :: b).headD 0 = 47) := by rw [headD_before b t 47 (by decide) (by decide)]; exact hs
  have hrun : run inWord (r :: (t ++ 41 :: b)) = run inWord (r :: t) := run_before (f := inWord) (y := 41) (by decide) b (r :: t)
  have hle := run_le inWord (r :: t)
  have htk : (r :: (t ++ 41 :: b)).take (run inWord (r :: t)) = (r :: t).take (run inWord (r :: t)) := List.take_append_of_le_length (l₁ := r :: t) (l₂ := 41 :: b) hle
  simp only [piece, hb, Bool.false_eq_true, if_false]
  rw [if_neg hs', if_neg hs, word, word, hrun, htk]
  have e62 := headD_before (y := 41) b t 62 (by decide) (by decide)
  simp only [e62]
theorem lex_close : ∀ (k : Nat) (q b : List Nat) (p : Nat × Nat), q.length ≤ k → ¬ [47, 47] <:+: q → (lex p q).2.2 = true →
    lex p (q ++ 41 :: b) = ((lex p q).1 ++ (lex (lex p q).2.1 (41 :: b)).1, (lex (lex p q).2.1 (41 :: b)).2)
  | k, [], b, p, _, _, _ => by rw [lex_nil]; rfl
  | 0, r :: t, b, p, hk, _, _ => by simp at hk
  | k + 1, r :: t, b, p, hk, hns, hok => by
    rw [List.length_cons] at hk
    have hnt : ¬ [47, 47] <:+: t := fun h => hns (h.trans (List.suffix_cons r t).isInfix)
    cases hb : blank r with
    | true =>
      rw [List.cons_append, lex_blank hb]
      rw [lex_blank hb] at hok ⊢
      exact lex_close k t b _ (by omega) hnt hok
    | false =>
      have hs : ¬ (r = 47 ∧ t.headD 0 = 47) := by
        rintro ⟨rfl, h⟩
        obtain ⟨u, rfl⟩ := headD_ne h (by decide)
        exact hns ⟨[], u, rfl⟩
      have hne : r :: t ≠ [] := by simp
      have hne2 : r :: (t ++ 41 :: b) ≠ [] := by simp
      have hp := piece_close b hb hs
      have h0 : (piece (r :: t)).1 ≠ 0 := fun h0 => by rw [lex_bad hne h0] at hok; cases hok
      have h1 := piece_pos h0
      have hle := piece_le (r :: t)
      have hlen : ((r :: t).drop (piece (r :: t)).2).length ≤ k := by
        rw [List.length_drop, List.length_cons]; omega
      have hnd : ¬ [47, 47] <:+: (r :: t).drop (piece (r :: t)).2 := fun h => hns (h.trans (List.drop_suffix _ _).isInfix)
      have htk : (r :: (t ++ 41 :: b)).take (piece (r :: t)).2 = (r :: t).take (piece (r :: t)).2 := List.take_append_of_le_length (l₁ := r :: t) (l₂ := 41 :: b) hle
      have hdr : (r :: (t ++ 41 :: b)).drop (piece (r :: t)).2 = (r :: t).drop (piece (r :: t)).2 ++ 41 :: b := List.drop_append_of_le_length (l₁ := r :: t) (l₂ := 41 :: b) hle
      rw [List.cons_append]
      by_cases hg : (piece (r :: t)).1 = -1
      · rw [lex_gap hne hg] at hok ⊢
        rw [lex_gap hne2 (by rw [hp]; exact hg), hp, htk, hdr]
        exact lex_close k _ b _ hlen hnd hok
      · rw [lex_tok hne h0 hg] at hok ⊢
        rw [lex_tok hne2 (by rw [hp]; exact h0) (by rw [hp]; exact hg), hp, htk, hdr, lex_close k _ b _ hlen hnd hok]
        rfl
/-- A sign at the front. -/
theorem lex_sign {r : Nat} (h : sign r = true) (hr : r ≠ 45) (t : List Nat) (p : Nat × Nat) : lex p (r :: t) = (⟨(r : Int), [r], p⟩ :: (lex (behind p r) t).1, (lex (behind p r) t).2) := by
  obtain ⟨-, hb, hl, h47, h6⟩ := sign_low h
  have hp : piece (r :: t) = ((r : Int), 1) := by
    rw [piece, if_neg (by rw [hb]; decide), if_neg (fun e => h47 e.1), if_neg (by rw [hl]; decide), if_neg (fun e => hr e.1), if_pos h]
  have := lex_tok (p := p) (q := r :: t) (by simp) (by rw [hp]; simp only; omega) (by rw [hp]; simp only; omega)
  rw [hp] at this
  exact this
theorem lex_minus {t : List Nat} (ht : t.headD 0 ≠ 62) (p : Nat × Nat) : lex p (45 :: t) = (⟨45, [45], p⟩ :: (lex (behind p 45) t).1, (lex (behind p 45) t).2) := by
  have hp : piece (45 :: t) = (45, 1) := by
    rw [piece, if_neg (by decide), if_neg (fun e => absurd e.1 (by decide)), if_neg (by decide), if_neg (fun e => ht e.2), if_pos (by decide)]
    rfl
  have := lex_tok (p := p) (q := 45 :: t) (by simp) (by rw [hp]; decide) (by rw [hp]; decide)
  rw [hp] at this
  exact this
/-- The three signs between two expressions. -/
def between : List (List Nat × List (Int × List Nat)) := [([124], [(124, [124])]), ([38], [(38, [38])]), ([32, 45, 32], [(45, [45])])]
theorem lex_between {m : List Nat × List (Int × List Nat)} (hm : m ∈ between) (t : List Nat) (p : Nat × Nat) : ∃ p', kt (lex p (m.1 ++ 40 :: t)).1 = m.2 ++ (40, [40]) :: kt (lex p' t).1 ∧ (lex p (m.1 ++ 40 :: t)).2.2 = (lex p' t).2.2 := by
  simp only [between, List.mem_cons, List.not_mem_nil, or_false] at hm
  rcases hm with rfl | rfl | rfl
  · rw [show ([124], [((124 : Int), [124])]).1 ++ 40 :: t = 124 :: 40 :: t from rfl, lex_sign (by decide) (by decide), lex_sign (by decide) (by decide)]
    exact ⟨_, rfl, rfl⟩
  · rw [show ([38], [((38 : Int), [38])]).1 ++ 40 :: t = 38 :: 40 :: t from rfl, lex_sign (by decide) (by decide), lex_sign (by decide) (by decide)]
    exact ⟨_, rfl, rfl⟩
  · rw [show ([32, 45, 32], [((45 : Int), [45])]).1 ++ 40 :: t = 32 :: 45 :: 32 :: 40 :: t from rfl, lex_blank (by decide), lex_minus (by simp), lex_blank (by decide), lex_sign (by decide) (by decide)]
    exact ⟨_, rfl, rfl⟩
/-- The tokens of two expressions within brackets, a sign between. -/
theorem lex_joint {q t : List Nat} {m : List Nat × List (Int × List Nat)} (hm : m ∈ between) (hq : ¬ [47, 47] <:+: q) (ht : ¬ [47, 47] <:+: t) (h1 : (lex (1, 1) q).2.2 = true) (h2 : (lex (1, 1) t).2.2 = true) :
    kt (lex (1, 1) (40 :: (q ++ 41 :: (m.1 ++ 40 :: (t ++ [41]))))).1 = (40, [40]) :: (kt (lex (1, 1) q).1 ++ (41, [41]) :: (m.2 ++ (40, [40]) :: (kt (lex (1, 1) t).1 ++ [(41, [41])]))) ∧ (lex (1, 1) (40 :: (q ++ 41 :: (m.1 ++ 40 :: (t ++ [41]))))).2.2 = true := by
  rw [lex_sign (by decide) (by decide)]
  have e1 := lex_place q.length q (behind (1, 1) 40) (1, 1) (Nat.le_refl _)
  have hc := lex_close q.length q (m.1 ++ 40 :: (t ++ [41])) (behind (1, 1) 40) (Nat.le_refl _) hq (by rw [e1.2]; exact h1)
  rw [hc, lex_sign (by decide) (by decide)]
  obtain ⟨p', hp1, hp2⟩ := lex_between hm (t ++ [41]) (behind (lex (behind (1, 1) 40) q).2.1 41)
  have e2 := lex_place t.length t p' (1, 1) (Nat.le_refl _)
  have hc2 := lex_close t.length t [] p' (Nat.le_refl _) ht (by rw [e2.2]; exact h2)
  rw [lex_sign (by decide) (by decide), lex_nil] at hc2
  rw [hc2] at hp1 hp2
  simp only [kt_cons, kt_append]
  refine ⟨?_, hp2⟩
  rw [hp1, e1.1, kt_append, e2.1]
  rfl
end Sg
end Go.Proofs.YtopncohhagebbaaDoor

namespace Go.Proofs.YtopncohhagebbaaDoor
open Go.RowKit
namespace Gr
open Tr (Nd none0)
open Sg (Tok kt)

/-- Behind an error of too many brackets all stays. -/
theorem fine_deep {α : Type} {p : St → α × St} (hp : Fine p) {s : St} (h : s.err = 12) : (p s).2.err = 12 := by rw [hp.err s (by rw [h]; decide)]; exact h
abbrev B (A : List K) (R : List K) : List K := (40, [40]) :: (A ++ (41, [41]) :: R)
theorem next_B (A R : List K) : next ⟨B A R, 0⟩ = 40 := rfl
theorem atom_B (br : P) (A R : List K) : atomOf br ⟨B A R, 0⟩ = br ⟨B A R, 0⟩ := by
  unfold atomOf
  rw [next_B, if_neg (by decide), if_pos rfl]
theorem eachs_nil {α : Type} (one : St → α × St) (k : Int) (hk : k ≠ 0) : eachs one k ⟨[], 0⟩ = ([], ⟨[], 0⟩) := eachs_off fun e => hk e.symm
/-- The sign's kind, the node's. -/
def signs3 : List (Int × List Nat × Int) := [(124, [124], 4), (38, [38], 5), (45, [45], 6)]
section
variable {br : P} {s r r' : St} {x y : Nd}
theorem less_plain (h : atomOf br s = (x, r)) (hn : next r ≠ 45) : lessOf br s = (x, r) := by unfold lessOf; rw [h, if_neg hn]
theorem less_two (h : atomOf br s = (x, r)) (hn : next r = 45) (h2 : atomOf br (tl r) = (y, r')) : lessOf br s = (.mk 6 none0 none0 [x, y], r') := by unfold lessOf; rw [h, if_pos hn, h2]
theorem less_deep (h : (atomOf br s).2.err = 12) : (lessOf br s).2.err = 12 := by
  unfold lessOf
  rw [if_neg (by rw [next_bad (by rw [h]; decide)]; decide)]
  exact h
theorem less_deep2 (h : atomOf br s = (x, r)) (hn : next r = 45) (h2 : (atomOf br (tl r)).2.err = 12) : (lessOf br s).2.err = 12 := by unfold lessOf; rw [h, if_pos hn]; exact h2
theorem meet_one (h : lessOf br s = (x, r)) (hn : next r ≠ 38) : meetOf br s = (x, r) := by
  unfold meetOf list
  rw [h]
  simp only
  rw [eachs_off hn]; rfl
theorem meet_two (hf : Fine br) (h : lessOf br s = (x, r)) (hn : next r = 38) (h2 : lessOf br (tl r) = (y, r')) (hn2 : next r' ≠ 38) : meetOf br s = (.mk 5 none0 none0 [x, y], r') := by
  unfold meetOf list
  rw [h]
  simp only
  rw [eachs_on (less_fine hf) (by decide) hn, h2]
  simp only
  rw [eachs_off hn2]; rfl
theorem meet_deep (hf : Fine br) (h : (lessOf br s).2.err = 12) : (meetOf br s).2.err = 12 := fine_deep (eachs_fine (less_fine hf) (by decide)) h
theorem meet_deep2 (hf : Fine br) (h : lessOf br s = (x, r)) (hn : next r = 38) (h2 : (lessOf br (tl r)).2.err = 12) : (meetOf br s).2.err = 12 := by
  unfold meetOf list
  rw [h]
  simp only
  rw [eachs_on (less_fine hf) (by decide) hn]
  exact fine_deep (eachs_fine (less_fine hf) (by decide)) h2
theorem union_one (h : meetOf br s = (x, r)) (hn : next r ≠ 124) : unionOf br s = (x, r) := by
  unfold unionOf list
  rw [h]
  simp only
  rw [eachs_off hn]; rfl
theorem union_two (hf : Fine br) (h : meetOf br s = (x, r)) (hn : next r = 124) (h2 : meetOf br (tl r) = (y, r')) (hn2 : next r' ≠ 124) : unionOf br s = (.mk 4 none0 none0 [x, y], r') := by
  unfold unionOf list
  rw [h]
  simp only
  rw [eachs_on (meet_fine hf) (by decide) hn, h2]
  simp only
  rw [eachs_off hn2]; rfl
theorem union_deep (hf : Fine br) (h : (meetOf br s).2.err = 12) : (unionOf br s).2.err = 12 := fine_deep (eachs_fine (meet_fine hf) (by decide)) h
theorem union_deep2 (hf : Fine br) (h : meetOf br s = (x, r)) (hn : next r = 124) (h2 : (meetOf br (tl r)).2.err = 12) : (unionOf br s).2.err = 12 := by
  unfold unionOf list
  rw [h]
  simp only
  rw [eachs_on (meet_fine hf) (by decide) hn]
  exact fine_deep (eachs_fine (meet_fine hf) (by decide)) h2
end
theorem next_end {k : Int} (hk : k ≠ 0) : next ⟨[], 0⟩ ≠ k := fun e => hk e.symm
theorem joint {x y : Nd} {A C : List K} (hA : union ⟨A, 0⟩ = (x, ⟨[], 0⟩)) (hC : union ⟨C, 0⟩ = (y, ⟨[], 0⟩)) {m : Int × List Nat × Int} (hm : m ∈ signs3) :
    union ⟨B A ((m.1, m.2.1) :: B C []), 0⟩ = (.mk m.2.2 none0 none0 [x, y], ⟨[], 0⟩) ∨ (union ⟨B A ((m.1, m.2.1) :: B C []), 0⟩).2.err = 12 := by
  have hb := brk_fine 8
  have h1 := in_brackets (R := (m.1, m.2.1) :: B C []) hA
  have h2 := in_brackets (R := []) hC
  rw [← atom_B (brk 8)] at h1 h2
  have hn : next ⟨(m.1, m.2.1) :: B C [], 0⟩ = m.1 := rfl
  have ht : tl ⟨(m.1, m.2.1) :: B C [], 0⟩ = ⟨B C [], 0⟩ := rfl
  generalize (⟨B A ((m.1, m.2.1) :: B C []), 0⟩ : St) = s at *
  generalize (⟨(m.1, m.2.1) :: B C [], 0⟩ : St) = r at *
  generalize (⟨B C [], 0⟩ : St) = r2 at *
  rw [← ht] at h2
  show unionOf (brk 8) s = _ ∨ (unionOf (brk 8) s).2.err = 12
  rcases h1 with h1 | h1
  case inr => exact .inr (union_deep hb (meet_deep hb (less_deep h1)))
  simp only [signs3, List.mem_cons, List.not_mem_nil, or_false] at hm
  have d1 : (124 : Int) ≠ 45 := by decide
  have d2 : (124 : Int) ≠ 38 := by decide
  have d3 : (38 : Int) ≠ 45 := by decide
  rcases hm with rfl | rfl | rfl
  · have hn : next r = 124 := hn
    have m1 := meet_one (less_plain h1 (by rw [hn]; exact d1)) (by rw [hn]; exact d2)
    rcases h2 with h2 | h2
    · exact .inl (union_two hb m1 hn (meet_one (less_plain h2 (next_end (by decide))) (next_end (by decide))) (next_end (by decide)))
    · exact .inr (union_deep2 hb m1 hn (meet_deep hb (less_deep h2)))
  · have hn : next r = 38 := hn
    have l1 := less_plain h1 (by rw [hn]; exact d3)
    rcases h2 with h2 | h2
    · exact .inl (union_one (meet_two hb l1 hn (less_plain h2 (next_end (by decide))) (next_end (by decide))) (next_end (by decide)))
    · exact .inr (union_deep hb (meet_deep2 hb l1 hn (less_deep h2)))
  · have hn : next r = 45 := hn
    rcases h2 with h2 | h2
    · exact .inl (union_one (meet_one (less_two h1 hn h2) (next_end (by decide))) (next_end (by decide)))
    · exact .inr (union_deep hb (meet_deep hb (less_deep2 h1 hn h2)))
end Gr
end Go.Proofs.YtopncohhagebbaaDoor

namespace Go.Proofs.YtopncohhagebbaaDoor
open Go.RowKit
namespace Sg

theorem byte_head {l : List UInt8} (h : l ≠ []) {n : Nat} (hn : (Gly.dec l).1 = n) (h128 : n < 128) : ∃ t, l = n.toUInt8 :: t ∧ (Gly.dec l).2 = 1 := by
  have hb : Gly.byte l 0 < 128 := by
    apply Classical.byContradiction
    intro hc
    have := Gly.dec_high h (by omega)
    omega
  have hd := Gly.dec_low h hb
  match l, h with
  | c :: t, _ =>
    rw [hd] at hn
    simp only at hn
    refine ⟨t, ?_, by rw [hd]⟩
    have e : c.toNat = n := hn
    rw [← e]
    simp
theorem slashes : ∀ (k : Nat) (l : List UInt8) (q : List Nat), l.length ≤ k → Gly.runes l = some q → [47, 47] <:+: q → ∃ j, j ≤ l.length ∧ Lib.occAt l [47, 47] j = true
  | k, l, q, hk, hq, hi => by
    by_cases h : l = []
    · subst h
      rw [Gly.runes_nil] at hq
      obtain rfl := Option.some.inj hq
      obtain ⟨a, b, hab⟩ := hi
      simp at hab
    · have hb := Gly.runes_good hq h
      have hw := Gly.dec_width l h
      rw [Gly.runes_step h hb] at hq
      cases hu : Gly.runes (l.drop (Gly.dec l).2) with
      | none => rw [hu] at hq; cases hq
      | some u =>
        rw [hu] at hq
        have hq : (Gly.dec l).1 :: u = q := Option.some.inj hq
        rw [← hq, List.infix_cons_iff] at hi
        rcases hi with hi | hi
        · obtain ⟨c, hc⟩ := hi
          have h1 : (Gly.dec l).1 = 47 := (List.cons.inj hc).1.symm
          have h2 : u = 47 :: c := (List.cons.inj hc).2.symm
          obtain ⟨t, rfl, hw1⟩ := byte_head h h1 (by decide)
          rw [hw1, List.drop_succ_cons, List.drop_zero] at hu
          have ht : t ≠ [] := by
            rintro rfl
            rw [Gly.runes_nil] at hu
            have := Option.some.inj hu
            rw [h2] at this
            cases this
          have hbt := Gly.runes_good hu ht
          rw [Gly.runes_step ht hbt] at hu
          cases hv : Gly.runes (t.drop (Gly.dec t).2) with
          | none => rw [hv] at hu; cases hu
          | some v =>
            rw [hv, h2] at hu
            have h3 : (Gly.dec t).1 = 47 := (List.cons.inj (Option.some.inj hu)).1
            obtain ⟨t2, rfl, -⟩ := byte_head ht h3 (by decide)
            exact ⟨0, Nat.zero_le _, rfl⟩
        · have hl := Gly.drop_lt h
          match k with
          | 0 => exact absurd (List.eq_nil_of_length_eq_zero (Nat.le_zero.1 hk)) h
          | k + 1 =>
            obtain ⟨j, hj, ho⟩ := slashes k _ u (by omega) hu hi
            refine ⟨(Gly.dec l).2 + j, by rw [List.length_drop] at hj; omega, ?_⟩
            unfold Lib.occAt at ho ⊢
            rwa [List.drop_drop] at ho
theorem no_slashes {l : List UInt8} {q : List Nat} (h : Lib.contains l [47, 47] = false) (hq : Gly.runes l = some q) : ¬ [47, 47] <:+: q := fun hi => by
  obtain ⟨j, hj, ho⟩ := slashes l.length l q (Nat.le_refl _) hq hi
  have h0 : ¬ 0 ≤ Lib.index l [47, 47] := by simpa [Lib.contains] using h
  rcases Lib.index_spec l [47, 47] with ⟨-, hn⟩ | ⟨i, e, -⟩
  · rw [hn j hj] at ho; cases ho
  · omega
end Sg
end Go.Proofs.YtopncohhagebbaaDoor

namespace Go.Proofs.YtopncohhagebbaaDoor
open Go.RowKit
namespace Gr
open Tr (Nd none0)
open Sg (Tok kt)

theorem byte_append {a : List UInt8} (b : List UInt8) {j : Nat} (h : j < a.length) : Gly.byte (a ++ b) j = Gly.byte a j := by
  unfold Gly.byte
  rw [List.getD, List.getD, List.getElem?_append_left h]
theorem runes_append : ∀ (k : Nat) (a b : List UInt8) (x : List Nat), a.length ≤ k → Gly.runes a = some x → Gly.runes (a ++ b) = (Gly.runes b).map (x ++ ·)
  | k, a, b, x, hk, hx => by
    by_cases h : a = []
    · subst h; rw [Gly.runes_nil] at hx; cases hx
      cases hb : Gly.runes b <;> simp [hb]
    · have hb := Gly.runes_good hx h
      have hw := Gly.dec_width a h
      have hl := Gly.drop_lt h
      obtain ⟨k, rfl⟩ : ∃ j, k = j + 1 := ⟨k - 1, by omega⟩
      have hd : Gly.dec (a ++ b) = Gly.dec a := Gly.dec_same h hb (by rw [List.length_append]; omega) fun j hj => byte_append b (by omega)
      have hne : a ++ b ≠ [] := by simp [h]
      have hb2 : Gly.bad (a ++ b) = false := by rw [Gly.bad, hd]; exact hb
      rw [Gly.runes_step h hb] at hx
      cases hu : Gly.runes (a.drop (Gly.dec a).2) with
      | none => rw [hu] at hx; cases hx
      | some u =>
        rw [hu] at hx; cases hx
        rw [Gly.runes_step hne hb2, hd, List.drop_append_of_le_length (by omega), runes_append k _ b u (by omega) hu, Option.map_map]
        rfl
theorem runes_join {a b : List UInt8} {x : List Nat} (h : Gly.runes a = some x) : Gly.runes (a ++ b) = (Gly.runes b).map (x ++ ·) := runes_append _ a b x (Nat.le_refl _) h
/-- A text that is an expression. -/
theorem expr_good {s : ByteArray} (h : (exprA s).2.2 = 0) : ∃ q, Gly.runes s.data.toList = some q ∧ q.length ≤ 3000 ∧ (Sg.lex (1, 1) q).2.2 = true ∧ union ⟨kt (Sg.lex (1, 1) q).1, 0⟩ = ((exprA s).1, ⟨[], 0⟩) := by
  unfold exprA at h ⊢
  by_cases h0 : (Sg.ans (Gly.runes s.data.toList)).1 = 0
  · obtain ⟨q, hq, hl, hok, ha, -, hk⟩ := ans_toks h0
    rw [ha] at h ⊢
    refine ⟨q, hq, hl, hok, ?_⟩
    by_cases hf : (fin (union ⟨kt (Sg.lex (1, 1) q).1, 0⟩).2).err = 0
    · have hao : (answer zeroN union (0, (Sg.lex (1, 1) q).2.1, (Sg.lex (1, 1) q).1)).1 = (union ⟨kt (Sg.lex (1, 1) q).1, 0⟩).1 := by
        rw [answer, if_pos rfl]
        simp only
        rw [done, if_pos hf]
      rw [hao]
      have h1 : next (union ⟨kt (Sg.lex (1, 1) q).1, 0⟩).2 = 0 := by
        apply Classical.byContradiction
        intro hn
        rw [fin, if_pos hn] at hf
        exact fail_err (by decide) hf
      have h2 : (union ⟨kt (Sg.lex (1, 1) q).1, 0⟩).2.err = 0 := by
        rw [fin, if_neg (fun e => e h1)] at hf
        exact hf
      have hsuf := uni_fine.suf ⟨kt (Sg.lex (1, 1) q).1, 0⟩
      have h3 : (union ⟨kt (Sg.lex (1, 1) q).1, 0⟩).2.rest = [] := by
        cases hr : (union ⟨kt (Sg.lex (1, 1) q).1, 0⟩).2.rest with
        | nil => rfl
        | cons t r =>
          rw [next, if_pos h2, hr] at h1
          have ht : t ∈ kt (Sg.lex (1, 1) q).1 := hsuf.subset (by rw [hr]; simp)
          rw [kt, List.mem_map] at ht
          obtain ⟨u, hu, rfl⟩ := ht
          exact absurd h1 (hk u hu).2
      generalize union ⟨kt (Sg.lex (1, 1) q).1, 0⟩ = r at *
      obtain ⟨x, ⟨rest, er⟩⟩ := r
      simp only at h2 h3
      subst h2 h3
      rfl
    · exfalso
      rw [answer, if_pos rfl] at h
      simp only at h
      rw [done, if_neg hf] at h
      simp only at h
      exact hf (by omega)
  · exfalso
    rw [answer, if_neg h0] at h
    exact h0 h
/-- The signs, as bytes, and their nodes' kinds. -/
def mids : List (List UInt8 × Int) := [([124], 4), ([38], 5), ([32, 45, 32], 6)]
theorem runes_one {b : UInt8} (h : b.toNat < 128) (l : List UInt8) : Gly.runes (b :: l) = (Gly.runes l).map ([b.toNat] ++ ·) := by
  have hd : Gly.dec (b :: l) = (b.toNat, 1) := by rw [Gly.dec_def, Lib.decodeN, if_pos (by simpa [Gly.byte] using h)]; rfl
  have hbad : Gly.bad (b :: l) = false := by
    rw [Gly.bad, hd]; simp; omega
  rw [Gly.runes_step (by simp) hbad, hd]
  show Option.map (fun t => (b.toNat, 1).1 :: t) (Gly.runes l) = _
  cases Gly.runes l <;> rfl
theorem bytes_len : ∀ (k : Nat) (l : List UInt8) (q : List Nat), l.length ≤ k → Gly.runes l = some q → q.length ≤ l.length
  | k, l, q, hk, hq => by
    by_cases h : l = []
    · subst h; rw [Gly.runes_nil] at hq; rw [← Option.some.inj hq]; simp
    · have hb := Gly.runes_good hq h
      have hw := Gly.dec_width l h
      have hl := Gly.drop_lt h
      rw [Gly.runes_step h hb] at hq
      cases hu : Gly.runes (l.drop (Gly.dec l).2) with
      | none => rw [hu] at hq; cases hq
      | some u =>
        rw [hu] at hq
        rw [← Option.some.inj hq]
        match k with
        | 0 => exact absurd (List.eq_nil_of_length_eq_zero (Nat.le_zero.1 hk)) h
        | k + 1 =>
          have := bytes_len k _ u (by omega) hu
          rw [List.length_cons]
          omega
/-- An answer out of what is read. -/
theorem answer_of {q : List Nat} {x : Nd} (hl : q.length ≤ 3000) (hok : (Sg.lex (1, 1) q).2.2 = true) :
    (union ⟨kt (Sg.lex (1, 1) q).1, 0⟩ = (x, ⟨[], 0⟩) → (answer zeroN union (Sg.ans (some q))).2.2 = 0 ∧ (answer zeroN union (Sg.ans (some q))).1 = x) ∧
    ((union ⟨kt (Sg.lex (1, 1) q).1, 0⟩).2.err = 12 → (answer zeroN union (Sg.ans (some q))).2.2 = 12) := by
  rw [Sg.ans_ok (by omega) hok]
  refine ⟨fun h => ?_, fun h => ?_⟩
  · have hf : (fin (union ⟨kt (Sg.lex (1, 1) q).1, 0⟩).2).err = 0 := by rw [h]; rfl
    rw [answer, if_pos rfl]
    simp only
    rw [done, if_pos hf, h]
    exact ⟨rfl, rfl⟩
  · have hf : (fin (union ⟨kt (Sg.lex (1, 1) q).1, 0⟩).2).err = 12 := by
      rw [fin, if_neg (fun e => e (next_bad (by rw [h]; decide)))]
      exact h
    rw [answer, if_pos rfl]
    simp only
    rw [done, if_neg (by rw [hf]; decide)]
    simp only
    rw [hf]; rfl
theorem joint_text {s t m j : List UInt8} {k : Int} {q u : List Nat} (hq : Gly.runes s = some q) (hu : Gly.runes t = some u) (h1 : Lib.contains s [47, 47] = false) (h2 : Lib.contains t [47, 47] = false) (hz : s.length ≤ 1000) (hz2 : t.length ≤ 1000)
    (ho1 : (Sg.lex (1, 1) q).2.2 = true) (ho2 : (Sg.lex (1, 1) u).2.2 = true) {x y : Nd} (hx : union ⟨kt (Sg.lex (1, 1) q).1, 0⟩ = (x, ⟨[], 0⟩)) (hy : union ⟨kt (Sg.lex (1, 1) u).1, 0⟩ = (y, ⟨[], 0⟩))
    (hm : (m, k) ∈ mids) (hj : j = 40 :: (s ++ 41 :: (m ++ 40 :: (t ++ [41])))) :
    (answer zeroN union (Sg.ans (Gly.runes j))).2.2 = 12 ∨ ((answer zeroN union (Sg.ans (Gly.runes j))).2.2 = 0 ∧ (answer zeroN union (Sg.ans (Gly.runes j))).1 = .mk k none0 none0 [x, y]) := by
  have l1 := bytes_len _ s q (Nat.le_refl _) hq
  have l2 := bytes_len _ t u (Nat.le_refl _) hu
  obtain ⟨mm, hmm, hrm, hk⟩ : ∃ mm ∈ Sg.between, (∀ r, Gly.runes (m ++ r) = (Gly.runes r).map (mm.1 ++ ·)) ∧ ∃ e ∈ signs3, mm.2 = [(e.1, e.2.1)] ∧ k = e.2.2 ∧ mm.1.length ≤ 3 := by
    simp only [mids, List.mem_cons, List.not_mem_nil, or_false, Prod.mk.injEq] at hm
    rcases hm with ⟨rfl, rfl⟩ | ⟨rfl, rfl⟩ | ⟨rfl, rfl⟩
    · exact ⟨([124], [(124, [124])]), by decide, fun r => runes_one (b := 124) (by decide) r, (124, [124], 4), by decide, rfl, rfl, by decide⟩
    · exact ⟨([38], [(38, [38])]), by decide, fun r => runes_one (b := 38) (by decide) r, (38, [38], 5), by decide, rfl, rfl, by decide⟩
    · refine ⟨([32, 45, 32], [(45, [45])]), by decide, fun r => ?_, (45, [45], 6), by decide, rfl, rfl, by decide⟩
      rw [List.cons_append, runes_one (by decide), List.cons_append, runes_one (by decide), List.cons_append, runes_one (by decide), List.nil_append]
      cases Gly.runes r <;> rfl
  obtain ⟨e, he, hke, rfl, hlm⟩ := hk
  have hr : Gly.runes j = some (40 :: (q ++ 41 :: (mm.1 ++ 40 :: (u ++ [41])))) := by
    rw [hj, runes_one (by decide), runes_join hq, runes_one (by decide), hrm, runes_one (by decide), runes_join hu, runes_one (by decide), Gly.runes_nil]
    rfl
  have hlen : (40 :: (q ++ 41 :: (mm.1 ++ 40 :: (u ++ [41])))).length ≤ 3000 := by
    simp only [List.length_cons, List.length_append, List.length_nil]
    omega
  obtain ⟨k1, k2⟩ := Sg.lex_joint hmm (Sg.no_slashes h1 hq) (Sg.no_slashes h2 hu) ho1 ho2
  have hjt := joint hx hy he
  rw [hke] at k1
  have k3 : kt (Sg.lex (1, 1) (40 :: (q ++ 41 :: (mm.1 ++ 40 :: (u ++ [41]))))).1 = B (kt (Sg.lex (1, 1) q).1) ((e.1, e.2.1) :: B (kt (Sg.lex (1, 1) u).1) []) := k1
  rw [← k3] at hjt
  rw [hr]
  rcases hjt with h | h
  · exact .inr ((answer_of hlen k2).1 h)
  · exact .inl ((answer_of (x := x) hlen k2).2 h)
end Gr
end Go.Proofs.YtopncohhagebbaaDoor

namespace Go.Proofs.YtopncohhagebbaaDoor
open Go.RowKit
namespace Gr
open Tr (Nd none0)
open Sg (Tok kt)

theorem name_of : ∀ (l : List Nat), (∀ r ∈ l, Sg.inWord r = true) → Gly.nameOk false (l.map Nat.toUInt8) = true
  | [], _ => rfl
  | r :: l, h => by
    have hr := h r (by simp)
    have hlow := Sg.inWord_low hr
    rw [List.map_cons, Gly.nameOk, name_of l fun x hx => h x (by simp [hx])]
    have e : r.toUInt8.toNat = r := by simp; omega
    rw [e]
    simp only [Sg.inWord, decide_eq_true_eq] at hr
    simp only [Gly.letterB, Gly.digitB, Bool.and_true, Bool.not_false, Bool.true_and, Bool.or_eq_true, decide_eq_true_eq, beq_iff_eq]
    omega
theorem name_first {r : Nat} {l : List Nat} (hr : Sg.letter r = true) (h : ∀ x ∈ l, Sg.inWord x = true) : Gly.nameOk true ((r :: l).map Nat.toUInt8) = true := by
  have hlow := Sg.inWord_low (Sg.letter_inWord hr)
  rw [List.map_cons, Gly.nameOk, name_of l h]
  have e : r.toUInt8.toNat = r := by simp; omega
  rw [e]
  simp only [Sg.letter, decide_eq_true_eq] at hr
  simp only [Gly.letterB, Bool.and_true, Bool.not_true, Bool.false_and, Bool.or_false, decide_eq_true_eq]
  omega
theorem map_inj {a b : List Nat} (ha : ∀ r ∈ a, r < 128) (hb : ∀ r ∈ b, r < 128) (h : a.map Nat.toUInt8 = b.map Nat.toUInt8) : a = b := by
  have key : ∀ l : List Nat, (∀ r ∈ l, r < 128) → (l.map Nat.toUInt8).map UInt8.toNat = l := by
    intro l
    induction l with
    | nil => intro _; rfl
    | cons r l ih =>
      intro hl
      have hr := hl r (by simp)
      rw [List.map_cons, List.map_cons, ih fun x hx => hl x (by simp [hx])]
      congr 1
      simp; omega
  rw [← key a ha, ← key b hb, h]
theorem piece_word {r : Nat} {t : List Nat} (h : (Sg.piece (r :: t)).1 = 1) : Tr.word (txt ((r :: t).take (Sg.piece (r :: t)).2)) = true := by
  rcases Sg.piece_cases r t with ⟨_, e⟩ | ⟨_, _, _, e⟩ | ⟨_, hl, _, _, hn, e⟩ | ⟨_, _, _, _, _, e⟩ | ⟨_, _, _, _, e⟩ | ⟨_, _, hs, _, e⟩ | ⟨_, _, _, _, e⟩
  · rw [e] at h; simp at h
  · rw [e] at h; simp at h
  · rw [e] at h ⊢
    simp only at h ⊢
    have hin := Sg.letter_inWord hl
    have hall := Sg.run_all (f := Sg.inWord) (q := r :: t)
    have hlen := Sg.run_le Sg.inWord (r :: t)
    have hpos : 1 ≤ Sg.run Sg.inWord (r :: t) := by rw [Sg.run_cons t hin]; omega
    generalize Sg.run Sg.inWord (r :: t) = n at *
    obtain ⟨m, rfl⟩ : ∃ m, n = m + 1 := ⟨n - 1, by omega⟩
    rw [List.take_succ_cons] at h hall ⊢
    have hlow : ∀ x ∈ r :: t.take m, x < 128 := fun x hx => Sg.inWord_low (hall x hx)
    have hne : ∀ w : List Nat, (∀ x ∈ w, x < 128) → r :: t.take m ≠ w → ((r :: t.take m).map Nat.toUInt8 == w.map Nat.toUInt8) = false := fun w hw hne => by
      rw [beq_eq_false_iff_ne]
      exact fun e => hne (map_inj hlow hw e)
    unfold Sg.kindOf at h
    split at h
    · simp at h
    · rename_i n1
      split at h
      · simp at h
      · rename_i n2
        split at h
        · simp at h
        · rename_i n3
          have q1 := hne [116, 121, 112, 101] (by decide) n1
          have q2 := hne [114, 101, 108] (by decide) n2
          have q3 := hne [116, 104, 105, 115] (by decide) n3
          have hnm : Gly.nameB ((r :: t.take m).map Nat.toUInt8) = true := by
            rw [Gly.nameB, name_first hl fun x hx => hall x (by simp [hx])]
            simp only [List.length_map, List.length_cons, Bool.and_true, decide_eq_true_eq, List.length_take]
            omega
          show Tr.word ⟨((r :: t.take m).map Nat.toUInt8).toArray⟩ = true
          unfold Tr.word
          simp only
          rw [hnm]
          have q1' : ((r :: t.take m).map Nat.toUInt8 == [116, 121, 112, 101]) = false := q1
          have q2' : ((r :: t.take m).map Nat.toUInt8 == [114, 101, 108]) = false := q2
          have q3' : ((r :: t.take m).map Nat.toUInt8 == [116, 104, 105, 115]) = false := q3
          rw [q1', q2', q3']
          rfl
  · rw [e] at h; simp at h
  · rw [e] at h; simp at h
  · rw [e] at h
    have := (Sg.sign_low hs).2.2.2.2
    simp only at h
    omega
  · rw [e] at h; simp at h
theorem lex_words : ∀ (k : Nat) (q : List Nat) (p : Nat × Nat), q.length ≤ k → ∀ t ∈ (Sg.lex p q).1, t.kind = 1 → Tr.word (txt t.text) = true
  | k, q, p, hk => by
    by_cases h : q = []
    · subst h; rw [Sg.lex_nil]; intro t ht; cases ht
    · by_cases h0 : (Sg.piece q).1 = 0
      · rw [Sg.lex_bad h h0]; intro t ht; cases ht
      · have h1 := Sg.piece_pos h0
        have hle := Sg.piece_le q
        have hl : (q.drop (Sg.piece q).2).length = q.length - (Sg.piece q).2 := List.length_drop ..
        have hpos := List.length_pos_iff.2 h
        match k with
        | 0 => omega
        | k + 1 =>
          have ih := lex_words k (q.drop (Sg.piece q).2) (Sg.behinds p (q.take (Sg.piece q).2)) (by omega)
          by_cases hg : (Sg.piece q).1 = -1
          · rw [Sg.lex_gap h hg]
            exact ih
          · rw [Sg.lex_tok h h0 hg]
            intro t ht
            rcases List.mem_cons.1 ht with rfl | ht
            · intro hk1
              match q, h with
              | r :: u, _ => exact piece_word hk1
            · exact ih t ht
theorem words_of (q : List Nat) (p : Nat × Nat) : Words (kt (Sg.lex p q).1) := fun t ht hk => by
  rw [kt, List.mem_map] at ht
  obtain ⟨u, hu, rfl⟩ := ht
  exact lex_words q.length q p (Nat.le_refl _) u hu hk
/-- A text's expression is a good node, and not greater than its tokens. -/
theorem expr_size {s : ByteArray} (h : (exprA s).2.2 = 0) : Tr.good (exprA s).1 = true ∧ Tr.size (exprA s).1 ≤ 6000 := by
  obtain ⟨q, hq, hl, hok, hu⟩ := expr_good h
  obtain ⟨-, h2, h3⟩ := uni_reads.good ⟨kt (Sg.lex (1, 1) q).1, 0⟩ (words_of q (1, 1)) (by rw [hu])
  rw [hu] at h2 h3
  refine ⟨h2, ?_⟩
  simp only at h3
  have := (Sg.lex_tells q.length q (1, 1) (Nat.le_refl _)).2
  have h4 := Sg.again_len (Sg.lex (1, 1) q).1
  rw [Sg.kt_len] at h3
  omega
end Gr
end Go.Proofs.YtopncohhagebbaaDoor

namespace Go.Proofs.YtopncohhagebbaaDoor
open Go.RowKit
namespace Gr
open Tr (Nd none0)
open Sg (Tok kt)

theorem need_more {s : St} {k : Int} (hk : k ≠ 0) (h : (need s k).err = 0) : s.err = 0 ∧ next s = k ∧ next s ≠ 0 ∧ s.rest ≠ [] := by
  obtain ⟨e, hn, -, -⟩ := need_good hk h
  have h0 : next s ≠ 0 := by rw [hn]; exact hk
  obtain ⟨-, t, r, hr, -⟩ := next_good h0
  exact ⟨e, hn, h0, by rw [hr]; simp⟩
theorem allow_ext : Ext allow := fun s B he hc => by
  unfold allow at he hc ⊢
  have hw : (word s).2.err = 0 := by
    by_cases a : next (word s).2 = 35
    · exact (next_good (s := (word s).2) (by rw [a]; decide)).1
    · rw [if_neg a] at he
      by_cases b : next (word s).2 = 58
      · exact (next_good (s := (word s).2) (by rw [b]; decide)).1
      · rw [if_neg b] at he; exact he
  rw [word_app hw]
  simp only
  by_cases a : next (word s).2 = 35
  · have h0 : next (word s).2 ≠ 0 := by rw [a]; decide
    rw [if_pos a] at he hc ⊢
    rw [if_pos (by rw [next_more h0]; exact a), tl_app h0, word_app he]
  · rw [if_neg a] at he hc ⊢
    by_cases b : next (word s).2 = 58
    · have h0 : next (word s).2 ≠ 0 := by rw [b]; decide
      rw [if_pos b] at he hc ⊢
      rw [if_neg (by rw [next_more h0]; exact a), if_pos (by rw [next_more h0]; exact b), tl_app h0, need_app (by decide) he]
    · rw [if_neg b] at he hc ⊢
      rw [if_neg fun e => a ((next_app hc (by decide) (by decide)).1 e), if_neg fun e => b ((next_app hc (by decide) (by decide)).1 e)]
theorem allows_app {s : St} (B : List K) (h : (need (allows s).2 61).err = 0) : allows (app s B) = ((allows s).1, app (allows s).2 B) := by
  obtain ⟨e, -, h0, -⟩ := need_more (by decide) h
  unfold allows at e h0 ⊢
  by_cases a : next s = 91
  · have h1 : next s ≠ 0 := by rw [a]; decide
    rw [if_pos a] at e h0 ⊢
    simp only at e h0
    obtain ⟨e1, -, -, hne⟩ := need_more (by decide) e
    have hl := list_ext allow_ext allow_fine (k := 44) (by decide) (by decide) (tl s) B e1 (.inl hne)
    rw [if_pos (by rw [next_more h1]; exact a), tl_app h1, hl]
    simp only
    rw [need_app (by decide) e]
  · rw [if_neg a] at e h0 ⊢
    simp only at e h0
    rw [if_neg (by rw [next_more h0]; exact a)]
theorem rel_app {s : St} (B : List K) (he : (rel s).2.err = 0) : rel (app s B) = ((rel s).1, app (rel s).2 B) := by
  unfold rel at he ⊢
  simp only at he ⊢
  obtain ⟨e1, -, -, hne⟩ := need_more (by decide) he
  have hu := uni_ext _ B e1 (.inl hne)
  have e2 := (union_fine (brk_fine 8)).err0 e1
  obtain ⟨e3, -, -, -⟩ := need_more (by decide) e2
  have hw := allows_fine.err0 e3
  rw [word_app hw]
  simp only
  rw [allows_app B e2]
  simp only
  rw [need_app (by decide) e2, hu]
  simp only
  rw [need_app (by decide) he]
theorem typ_app {s : St} (B : List K) (he : (typ s).2.err = 0) : typ (app s B) = ((typ s).1, app (typ s).2 B) := by
  unfold typ at he ⊢
  simp only at he ⊢
  obtain ⟨e1, -, -, hne⟩ := need_more (by decide) he
  have hu := eachs_ext (one := rel) (k := 3) (fun s B he _ => rel_app B he) rel_fine (by decide) (by decide) _ B e1 (.inl hne)
  have e2 := (eachs_fine rel_fine (k := 3) (by decide)).err0 e1
  obtain ⟨hw, -, -, -⟩ := need_more (by decide) e2
  rw [word_app hw]
  simp only
  rw [need_app (by decide) e2, hu]
  simp only
  rw [need_app (by decide) he]
theorem config_app {C : List K} {Y : List Ty} (hC : config ⟨C, 0⟩ = (Y, ⟨[], 0⟩)) : ∀ (n : Nat) (s : St), s.rest.length ≤ n → (config s).2 = ⟨[], 0⟩ → config (app s C) = ((config s).1 ++ Y, ⟨[], 0⟩)
  | n, s, hn, h => by
    unfold config at h ⊢
    by_cases a : next s = 2
    · have h0 : next s ≠ 0 := by rw [a]; decide
      have hl := tl_len h0
      have hs := (typ_fine.suf (tl s)).length_le
      rw [eachs_on typ_fine (by decide) a] at h ⊢
      simp only at h ⊢
      have he : (typ (tl s)).2.err = 0 := config_fine.err0 (s := (typ (tl s)).2) (by unfold config; rw [h])
      match n with
      | 0 => omega
      | n + 1 =>
        have h2 := config_app hC n (typ (tl s)).2 (by omega) h
        unfold config at h2
        rw [eachs_on typ_fine (by decide) (by rw [next_more h0]; exact a), tl_app h0, typ_app C he]
        simp only
        rw [h2]
        rfl
    · rw [eachs_off a] at h ⊢
      simp only at h ⊢
      subst h
      exact hC
theorem config_join {A C : List K} {X Y : List Ty} (hA : config ⟨A, 0⟩ = (X, ⟨[], 0⟩)) (hC : config ⟨C, 0⟩ = (Y, ⟨[], 0⟩)) : config ⟨A ++ C, 0⟩ = (X ++ Y, ⟨[], 0⟩) := by
  have h := config_app hC _ ⟨A, 0⟩ (Nat.le_refl _) (by rw [hA])
  rw [hA] at h
  exact h
end Gr
end Go.Proofs.YtopncohhagebbaaDoor

namespace Go.Proofs.YtopncohhagebbaaDoor
open Go.RowKit
namespace Sg

/-- A piece ahead of a line's end. -/
theorem piece_line {r : Nat} {t : List Nat} (b : List Nat) (hb : blank r = false) : piece (r :: (t ++ 10 :: b)) = piece (r :: t) := by
  have hs : (r = 47 ∧ (t ++ 10 :: b).headD 0 = 47) = (r = 47 ∧ t.headD 0 = 47) := by rw [headD_before b t 47 (by decide) (by decide)]
  have hrun : run inWord (r :: (t ++ 10 :: b)) = run inWord (r :: t) := run_before (f := inWord) (y := 10) (by decide) b (r :: t)
  have hlin : run inLine (r :: (t ++ 10 :: b)) = run inLine (r :: t) := run_before (f := inLine) (y := 10) (by decide) b (r :: t)
  have hle := run_le inWord (r :: t)
  have htk : (r :: (t ++ 10 :: b)).take (run inWord (r :: t)) = (r :: t).take (run inWord (r :: t)) := List.take_append_of_le_length (l₁ := r :: t) (l₂ := 10 :: b) hle
  have e62 := headD_before (y := 10) b t 62 (by decide) (by decide)
  simp only [piece, hb, Bool.false_eq_true, if_false, word, hrun, hlin, htk, e62, hs]
theorem lex_line : ∀ (k : Nat) (q b : List Nat) (p : Nat × Nat), q.length ≤ k → (lex p q).2.2 = true →
    lex p (q ++ 10 :: b) = ((lex p q).1 ++ (lex (lex p q).2.1 (10 :: b)).1, (lex (lex p q).2.1 (10 :: b)).2)
  | k, [], b, p, _, _ => by rw [lex_nil]; rfl
  | 0, r :: t, b, p, hk, _ => by simp at hk
  | k + 1, r :: t, b, p, hk, hok => by
    rw [List.length_cons] at hk
    cases hb : blank r with
    | true =>
      rw [List.cons_append, lex_blank hb]
      rw [lex_blank hb] at hok ⊢
      exact lex_line k t b _ (by omega) hok
    | false =>
      have hne : r :: t ≠ [] := by simp
      have hne2 : r :: (t ++ 10 :: b) ≠ [] := by simp
      have hp := piece_line b hb (t := t)
      have h0 : (piece (r :: t)).1 ≠ 0 := fun h0 => by rw [lex_bad hne h0] at hok; cases hok
      have h1 := piece_pos h0
      have hle := piece_le (r :: t)
      have hlen : ((r :: t).drop (piece (r :: t)).2).length ≤ k := by
        rw [List.length_drop, List.length_cons]; omega
      have htk : (r :: (t ++ 10 :: b)).take (piece (r :: t)).2 = (r :: t).take (piece (r :: t)).2 := List.take_append_of_le_length (l₁ := r :: t) (l₂ := 10 :: b) hle
      have hdr : (r :: (t ++ 10 :: b)).drop (piece (r :: t)).2 = (r :: t).drop (piece (r :: t)).2 ++ 10 :: b := List.drop_append_of_le_length (l₁ := r :: t) (l₂ := 10 :: b) hle
      rw [List.cons_append]
      by_cases hg : (piece (r :: t)).1 = -1
      · rw [lex_gap hne hg] at hok ⊢
        rw [lex_gap hne2 (by rw [hp]; exact hg), hp, htk, hdr]
        exact lex_line k _ b _ hlen hok
      · rw [lex_tok hne h0 hg] at hok ⊢
        rw [lex_tok hne2 (by rw [hp]; exact h0) (by rw [hp]; exact hg), hp, htk, hdr, lex_line k _ b _ hlen hok]
        rfl
/-- Two texts with a line's end between them. -/
theorem lex_lines {q t : List Nat} {p : Nat × Nat} (h1 : (lex p q).2.2 = true) (h2 : (lex p t).2.2 = true) :
    kt (lex p (q ++ 10 :: t)).1 = kt (lex p q).1 ++ kt (lex p t).1 ∧ (lex p (q ++ 10 :: t)).2.2 = true := by
  rw [lex_line q.length q t p (Nat.le_refl _) h1, lex_blank (r := 10) (by decide)]
  have := lex_place t.length t (behind (lex p q).2.1 10) p (Nat.le_refl _)
  exact ⟨by rw [kt_append, this.1], this.2.trans h2⟩
end Sg
end Go.Proofs.YtopncohhagebbaaDoor

namespace Go.Proofs.YtopncohhagebbaaDoor
open Go.RowKit
namespace Gr
open Tr (Nd none0)
open Sg (Tok kt)

/-- A text that is a configuration. -/
theorem parse_good {s : ByteArray} (h : (parseA s).2.2 = 0) : ∃ q, Gly.runes s.data.toList = some q ∧ q.length ≤ 3000 ∧ (Sg.lex (1, 1) q).2.2 = true ∧ config ⟨kt (Sg.lex (1, 1) q).1, 0⟩ = ((parseA s).1, ⟨[], 0⟩) := by
  unfold parseA at h ⊢
  by_cases h0 : (Sg.ans (Gly.runes s.data.toList)).1 = 0
  · obtain ⟨q, hq, hl, hok, ha, -, hk⟩ := ans_toks h0
    rw [ha] at h ⊢
    refine ⟨q, hq, hl, hok, ?_⟩
    by_cases hf : (fin (config ⟨kt (Sg.lex (1, 1) q).1, 0⟩).2).err = 0
    · have hao : (answer ([] : List Ty) config (0, (Sg.lex (1, 1) q).2.1, (Sg.lex (1, 1) q).1)).1 = (config ⟨kt (Sg.lex (1, 1) q).1, 0⟩).1 := by
        rw [answer, if_pos rfl]
        simp only
        rw [done, if_pos hf]
      rw [hao]
      have h1 : next (config ⟨kt (Sg.lex (1, 1) q).1, 0⟩).2 = 0 := by
        apply Classical.byContradiction
        intro hn
        rw [fin, if_pos hn] at hf
        exact fail_err (by decide) hf
      have h2 : (config ⟨kt (Sg.lex (1, 1) q).1, 0⟩).2.err = 0 := by
        rw [fin, if_neg (fun e => e h1)] at hf
        exact hf
      have hsuf := config_fine.suf ⟨kt (Sg.lex (1, 1) q).1, 0⟩
      have h3 : (config ⟨kt (Sg.lex (1, 1) q).1, 0⟩).2.rest = [] := by
        cases hr : (config ⟨kt (Sg.lex (1, 1) q).1, 0⟩).2.rest with
        | nil => rfl
        | cons t r =>
          rw [next, if_pos h2, hr] at h1
          have ht : t ∈ kt (Sg.lex (1, 1) q).1 := hsuf.subset (by rw [hr]; simp)
          rw [kt, List.mem_map] at ht
          obtain ⟨u, hu, rfl⟩ := ht
          exact absurd h1 (hk u hu).2
      generalize config ⟨kt (Sg.lex (1, 1) q).1, 0⟩ = r at *
      obtain ⟨x, ⟨rest, er⟩⟩ := r
      simp only at h2 h3
      subst h2 h3
      rfl
    · exfalso
      rw [answer, if_pos rfl] at h
      simp only at h
      rw [done, if_neg hf] at h
      simp only at h
      exact hf (by omega)
  · exfalso
    rw [answer, if_neg h0] at h
    exact h0 h
theorem joins_text {s t j : List UInt8} {q u : List Nat} (hq : Gly.runes s = some q) (hu : Gly.runes t = some u) (hz : s.length ≤ 1400) (hz2 : t.length ≤ 1400)
    (ho1 : (Sg.lex (1, 1) q).2.2 = true) (ho2 : (Sg.lex (1, 1) u).2.2 = true) {X Y : List Ty} (hx : config ⟨kt (Sg.lex (1, 1) q).1, 0⟩ = (X, ⟨[], 0⟩)) (hy : config ⟨kt (Sg.lex (1, 1) u).1, 0⟩ = (Y, ⟨[], 0⟩))
    (hj : j = s ++ 10 :: t) :
    (answer [] config (Sg.ans (Gly.runes j))).2.2 = 0 ∧ (answer [] config (Sg.ans (Gly.runes j))).1 = X ++ Y := by
  have l1 := bytes_len _ s q (Nat.le_refl _) hq
  have l2 := bytes_len _ t u (Nat.le_refl _) hu
  have hr : Gly.runes j = some (q ++ 10 :: u) := by
    rw [hj, runes_join hq, runes_one (by decide), hu]
    rfl
  have hlen : (q ++ 10 :: u).length ≤ 3000 := by
    simp only [List.length_cons, List.length_append]
    omega
  obtain ⟨k1, k2⟩ := Sg.lex_lines ho1 ho2
  have hjt := config_join hx hy
  rw [← k1] at hjt
  rw [hr, Sg.ans_ok (by omega) k2]
  have hf : (fin (config ⟨kt (Sg.lex (1, 1) (q ++ 10 :: u)).1, 0⟩).2).err = 0 := by rw [hjt]; rfl
  rw [answer, if_pos rfl]
  simp only
  rw [done, if_pos hf, hjt]
  exact ⟨rfl, rfl⟩
/-- What the law asks of two texts and their joint. -/
theorem joins_any {s t j : ByteArray} (hz : s.size ≤ 1400) (hz2 : t.size ≤ 1400) (hs : (parseA s).2.2 = 0) (ht : (parseA t).2.2 = 0) (hj : j.data.toList = s.data.toList ++ 10 :: t.data.toList) :
    (parseA j).2.2 = 0 ∧ (parseA j).1 = (parseA s).1 ++ (parseA t).1 := by
  obtain ⟨q, hq, -, ho1, hx⟩ := parse_good hs
  obtain ⟨u, hu, -, ho2, hy⟩ := parse_good ht
  exact joins_text hq hu (by rw [← Lib.size_eq]; exact hz) (by rw [← Lib.size_eq]; exact hz2) ho1 ho2 hx hy hj
end Gr
end Go.Proofs.YtopncohhagebbaaDoor

namespace Go.Proofs.YtopncohhagebbaaDoor.Gly
open Go

/-- What Rune answers: the rune and its width, or noughts. -/
def rr (l : List UInt8) : Nat × Nat := if bad l then (0, 0) else dec l

theorem rr_bad {l : List UInt8} (h : bad l = true) : rr l = (0, 0) := by rw [rr, if_pos h]
theorem rr_good {l : List UInt8} (h : bad l = false) : rr l = dec l := by rw [rr, if_neg (by rw [h]; exact Bool.false_ne_true)]
theorem rr_of_bad {l : List UInt8} (h : dec l = (65533, 1)) : rr l = (0, 0) := rr_bad (by simp [bad, h])
theorem rr_of_good {l : List UInt8} {r n : Nat} (h : dec l = (r, n)) (hn : n ≠ 1 ∨ r ≠ 65533) : rr l = (r, n) := by
  rw [rr_good, h]
  simp only [bad, h, decide_eq_false_iff_not, Prod.mk.injEq]
  omega

theorem rr_one {l : List UInt8} (h : byte l 0 < 128) : rr l = (byte l 0, 1) := rr_of_good (by rw [dec_def, Lib.decodeN, if_pos h]) (by omega)
theorem rr_none {l : List UInt8} (h : (128 ≤ byte l 0 ∧ byte l 0 < 192) ∨ 248 ≤ byte l 0) : rr l = (0, 0) := by
  have hb := byte_lt l 0
  exact rr_of_bad (by rw [dec_def, Lib.decodeN, if_neg (by omega), if_neg (by omega), if_neg (by omega), if_neg (by omega)])

/-- The number that Rune has behind k bytes. -/
def pr (l : List UInt8) (base : Nat) : Nat → Int
  | 0 => 0
  | 1 => (byte l 0 : Int) - base
  | k + 2 => pr l base (k + 1) * 64 + (byte l (k + 1) : Int) - 128
theorem pr_one (l : List UInt8) (base : Nat) : pr l base 1 = (byte l 0 : Int) - base := rfl
theorem pr_succ (l : List UInt8) (base k : Nat) (h : 1 ≤ k) : pr l base (k + 1) = pr l base k * 64 + (byte l k : Int) - 128 := by
  obtain ⟨k, rfl⟩ : ∃ j, k = j + 1 := ⟨k - 1, by omega⟩
  rfl

def cont (l : List UInt8) (k : Nat) : Prop := 128 ≤ byte l k ∧ byte l k ≤ 191

theorem rr_short {l : List UInt8} {n : Nat} (hn : (192 ≤ byte l 0 ∧ byte l 0 < 224 ∧ n = 2) ∨ (224 ≤ byte l 0 ∧ byte l 0 < 240 ∧ n = 3) ∨ (240 ≤ byte l 0 ∧ byte l 0 < 248 ∧ n = 4)) (h : l.length < n) : rr l = (0, 0) := by
  refine rr_of_bad ?_
  rw [dec_def, Lib.decodeN, if_neg (by omega), if_neg (by omega), if_neg (by omega), if_neg (by omega)]

theorem rr_cut {l : List UInt8} {n k : Nat} (hn : (192 ≤ byte l 0 ∧ byte l 0 < 224 ∧ n = 2) ∨ (224 ≤ byte l 0 ∧ byte l 0 < 240 ∧ n = 3) ∨ (240 ≤ byte l 0 ∧ byte l 0 < 248 ∧ n = 4)) (h1 : 1 ≤ k) (h2 : k < n) (h : byte l k < 128 ∨ 191 < byte l k) : rr l = (0, 0) := by
  refine rr_of_bad ?_
  have b0 := byte_lt l 0; have b1 := byte_lt l 1; have b2 := byte_lt l 2; have b3 := byte_lt l 3
  rw [dec_def, Lib.decodeN]
  have : k = 1 ∨ k = 2 ∨ k = 3 := by omega
  rcases this with rfl | rfl | rfl
  all_goals
    rw [if_neg (by omega)]
    repeat' split
    all_goals first | rfl | (exfalso; omega)

/-- What Rune tells at the end, all the further bytes being such. -/
def out (r : Int) (n least : Nat) : Nat × Nat := if r < least ∨ 1114111 < r ∨ (55296 ≤ r ∧ r ≤ 57343) then (0, 0) else (r.toNat, n)
theorem out_bad {r : Int} {n least : Nat} (h : r < least ∨ 1114111 < r ∨ (55296 ≤ r ∧ r ≤ 57343)) : out r n least = (0, 0) := by rw [out, if_pos h]
theorem out_good {r : Int} {n least : Nat} (h : ¬ (r < least ∨ 1114111 < r ∨ (55296 ≤ r ∧ r ≤ 57343))) : out r n least = (r.toNat, n) := by rw [out, if_neg h]

theorem rr_two {l : List UInt8} (h : 192 ≤ byte l 0 ∧ byte l 0 < 224) (hl : 2 ≤ l.length) (c1 : cont l 1) : rr l = out (pr l 192 2) 2 128 := by
  obtain ⟨c1, d1⟩ := c1
  have e : pr l 192 2 = ((byte l 0 % 32 * 64 + byte l 1 % 64 : Nat) : Int) := by simp only [pr, Nat.zero_add]; omega
  rw [e]
  have hd : dec l = if byte l 0 % 32 * 64 + byte l 1 % 64 ≥ 128 then (byte l 0 % 32 * 64 + byte l 1 % 64, 2) else (65533, 1) := by
    rw [dec_def, Lib.decodeN, if_neg (by omega), if_pos (by omega)]
  by_cases c : byte l 0 % 32 * 64 + byte l 1 % 64 ≥ 128
  · rw [out_good (by omega), rr_of_good (hd.trans (if_pos c)) (by omega), Int.toNat_natCast]
  · rw [out_bad (by omega), rr_of_bad (hd.trans (if_neg c))]

theorem rr_three {l : List UInt8} (h : 224 ≤ byte l 0 ∧ byte l 0 < 240) (hl : 3 ≤ l.length) (c1 : cont l 1) (c2 : cont l 2) : rr l = out (pr l 224 3) 3 2048 := by
  obtain ⟨c1, d1⟩ := c1
  obtain ⟨c2, d2⟩ := c2
  have e : pr l 224 3 = ((byte l 0 % 16 * 4096 + byte l 1 % 64 * 64 + byte l 2 % 64 : Nat) : Int) := by simp only [pr, Nat.zero_add, Nat.reduceAdd]; omega
  rw [e]
  have hd : dec l = if byte l 0 % 16 * 4096 + byte l 1 % 64 * 64 + byte l 2 % 64 ≥ 2048 ∧ (byte l 0 % 16 * 4096 + byte l 1 % 64 * 64 + byte l 2 % 64 < 55296 ∨ (57344 ≤ byte l 0 % 16 * 4096 + byte l 1 % 64 * 64 + byte l 2 % 64 ∧ byte l 0 % 16 * 4096 + byte l 1 % 64 * 64 + byte l 2 % 64 ≤ 1114111)) then (byte l 0 % 16 * 4096 + byte l 1 % 64 * 64 + byte l 2 % 64, 3) else (65533, 1) := by
    rw [dec_def, Lib.decodeN, if_neg (by omega), if_neg (by omega), if_pos (by omega)]
  generalize byte l 0 % 16 * 4096 + byte l 1 % 64 * 64 + byte l 2 % 64 = v at hd ⊢
  by_cases c : v ≥ 2048 ∧ (v < 55296 ∨ (57344 ≤ v ∧ v ≤ 1114111))
  · rw [out_good (by omega), rr_of_good (hd.trans (if_pos c)) (by omega), Int.toNat_natCast]
  · rw [out_bad (by omega), rr_of_bad (hd.trans (if_neg c))]

theorem rr_four {l : List UInt8} (h : 240 ≤ byte l 0 ∧ byte l 0 < 248) (hl : 4 ≤ l.length) (c1 : cont l 1) (c2 : cont l 2) (c3 : cont l 3) : rr l = out (pr l 240 4) 4 65536 := by
  obtain ⟨c1, d1⟩ := c1
  obtain ⟨c2, d2⟩ := c2
  obtain ⟨c3, d3⟩ := c3
  have e : pr l 240 4 = ((byte l 0 % 8 * 262144 + byte l 1 % 64 * 4096 + byte l 2 % 64 * 64 + byte l 3 % 64 : Nat) : Int) := by simp only [pr, Nat.zero_add, Nat.reduceAdd]; omega
  rw [e]
  have hd : dec l = if byte l 0 % 8 * 262144 + byte l 1 % 64 * 4096 + byte l 2 % 64 * 64 + byte l 3 % 64 ≥ 65536 ∧ (byte l 0 % 8 * 262144 + byte l 1 % 64 * 4096 + byte l 2 % 64 * 64 + byte l 3 % 64 < 55296 ∨ (57344 ≤ byte l 0 % 8 * 262144 + byte l 1 % 64 * 4096 + byte l 2 % 64 * 64 + byte l 3 % 64 ∧ byte l 0 % 8 * 262144 + byte l 1 % 64 * 4096 + byte l 2 % 64 * 64 + byte l 3 % 64 ≤ 1114111)) then (byte l 0 % 8 * 262144 + byte l 1 % 64 * 4096 + byte l 2 % 64 * 64 + byte l 3 % 64, 4) else (65533, 1) := by
    rw [dec_def, Lib.decodeN, if_neg (by omega), if_neg (by omega), if_neg (by omega), if_pos (by omega)]
  generalize byte l 0 % 8 * 262144 + byte l 1 % 64 * 4096 + byte l 2 % 64 * 64 + byte l 3 % 64 = v at hd ⊢
  by_cases c : v ≥ 65536 ∧ (v < 55296 ∨ (57344 ≤ v ∧ v ≤ 1114111))
  · rw [out_good (by omega), rr_of_good (hd.trans (if_pos c)) (by omega), Int.toNat_natCast]
  · rw [out_bad (by omega), rr_of_bad (hd.trans (if_neg c))]

/-- Bounds of the number on the way. -/
theorem pr_bounds (l : List UInt8) (base : Nat) (h0 : base ≤ byte l 0) (h1 : byte l 0 < base + 32) : ∀ k, 1 ≤ k → k ≤ 4 → (∀ j, 1 ≤ j → j < k → cont l j) → 0 ≤ pr l base k ∧ pr l base k ≤ 16777215
  | 0, h, _, _ => by omega
  | 1, _, _, _ => by rw [pr_one]; omega
  | 2, _, _, hc => by have := hc 1 (by omega) (by omega); unfold cont at this; simp only [pr, Nat.zero_add]; omega
  | 3, _, _, hc => by have := hc 1 (by omega) (by omega); have := hc 2 (by omega) (by omega); unfold cont at *; simp only [pr, Nat.zero_add, Nat.reduceAdd]; omega
  | 4, _, _, hc => by have := hc 1 (by omega) (by omega); have := hc 2 (by omega) (by omega); have := hc 3 (by omega) (by omega); unfold cont at *; simp only [pr, Nat.zero_add, Nat.reduceAdd]; omega
  | k + 5, _, h, _ => by omega
end Go.Proofs.YtopncohhagebbaaDoor.Gly

namespace Go.Proofs.YtopncohhagebbaaDoor
open Go.RowKit
namespace Gr
open Tr (Nd none0 good goods fits size sizes depth depths size_pos sizes_mem)
open Sg (Tok kt)

/-- A text's bytes, as runes. -/
def wd (a : ByteArray) : List Nat := a.data.toList.map UInt8.toNat
theorem txt_wd (a : ByteArray) : txt (wd a) = a := by
  unfold txt wd
  rw [List.map_map]
  have h : (Nat.toUInt8 ∘ UInt8.toNat) = id := by
    funext b
    show b.toNat.toUInt8 = b
    simp
  rw [h, List.map_id]
def sgn (k : Int) : K := if k = 4 then (124, [124]) else if k = 5 then (38, [38]) else (45, [45])
def needsB (k q : Int) : Bool := (k == 4 && q == 4) || (k == 5 && (q == 4 || q == 5)) || (k == 6 && decide (4 ≤ q))
def inBr (c : Bool) (T : List K) : List K := if c then (40, [40]) :: (T ++ [(41, [41])]) else T
mutual
def toksN : Nd → List K
  | .mk k a b l => if k = 1 then [(4, [116, 104, 105, 115])] else if k = 2 then [(1, wd a)] else if k = 3 then [(1, wd a), (5, [45, 62]), (1, wd b)] else toksL k true l
def toksL (k : Int) : Bool → List Nd → List K
  | _, [] => []
  | f, n :: r => (if f then [] else [sgn k]) ++ (inBr (needsB k n.kind) (toksN n) ++ toksL k false r)
end
theorem next_head (R : List K) : next ⟨R, 0⟩ = headK R := rfl
theorem nil_none {a : ByteArray} (h : Tr.nil a = true) : a = none0 := by
  cases a with
  | mk d =>
    have h2 : d.toList = [] := by simpa [Tr.nil] using h
    have : d = #[] := by cases d; simp at h2; subst h2; rfl
    subst this
    rfl
theorem eachs_parts {one : St → Nd × St} (hf : Fine one) {k kd : Int} (hk : (sgn kd).1 = k) (hk0 : k ≠ 0) (C : List K → Prop) (hC : ∀ x r, C ((k, x) :: r)) :
    ∀ (l : List Nd), (∀ m ∈ l, ∀ R, C R → one ⟨inBr (needsB kd m.kind) (toksN m) ++ R, 0⟩ = (m, ⟨R, 0⟩)) → ∀ R, C R → headK R ≠ k → eachs one k ⟨toksL kd false l ++ R, 0⟩ = (l, ⟨R, 0⟩)
  | [], _, R, _, hR => by
    rw [toksL, List.nil_append]
    exact eachs_off (by rw [next_head]; exact hR)
  | m :: l, H, R, hc, hR => by
    have hs : sgn kd = (k, (sgn kd).2) := Prod.ext hk rfl
    have hC2 : C (toksL kd false l ++ R) := by
      cases l with
      | nil => rw [toksL]; exact hc
      | cons n r => rw [toksL, if_neg (by decide), hs]; exact hC _ _
    have h1 := H m (by simp) (toksL kd false l ++ R) hC2
    have ih := eachs_parts hf hk hk0 C hC l (fun n hn => H n (by simp [hn])) R hc hR
    have hn : next ⟨toksL kd false (m :: l) ++ R, 0⟩ = k := by rw [toksL, if_neg (by decide), hs]; rfl
    have ht : tl ⟨toksL kd false (m :: l) ++ R, 0⟩ = ⟨inBr (needsB kd m.kind) (toksN m) ++ (toksL kd false l ++ R), 0⟩ := by
      rw [toksL, if_neg (by decide)]
      simp [tl]
    rw [eachs_on hf hk0 hn, ht, h1]
    simp only
    rw [ih]
/-- What stands behind: no sign that goes on. -/
def Quiet (n : Nat) (R : List K) : Prop := headK R ≠ 5 ∧ (1 ≤ n → headK R ≠ 45) ∧ (2 ≤ n → headK R ≠ 38) ∧ (3 ≤ n → headK R ≠ 124)
theorem Quiet.mono {m n : Nat} {R : List K} (h : Quiet n R) (hm : m ≤ n) : Quiet m R := ⟨h.1, fun h1 => h.2.1 (by omega), fun h1 => h.2.2.1 (by omega), fun h1 => h.2.2.2 (by omega)⟩
theorem quiet_on {k : Int} {x : List Nat} {R : List K} {n : Nat} (h1 : k ≠ 5) (h2 : k ≠ 45) (h3 : k ≠ 38) (h4 : 3 ≤ n → k ≠ 124) : Quiet n ((k, x) :: R) := ⟨h1, fun _ => h2, fun _ => h3, h4⟩
theorem less_up {br : P} {s : St} {n : Nd} {R : List K} (h : atomOf br s = (n, ⟨R, 0⟩)) (hq : Quiet 1 R) : lessOf br s = (n, ⟨R, 0⟩) := less_plain h (hq.2.1 (by omega))
theorem meet_up {br : P} {s : St} {n : Nd} {R : List K} (h : lessOf br s = (n, ⟨R, 0⟩)) (hq : Quiet 2 R) : meetOf br s = (n, ⟨R, 0⟩) := meet_one h (hq.2.2.1 (by omega))
theorem union_up {br : P} {s : St} {n : Nd} {R : List K} (h : meetOf br s = (n, ⟨R, 0⟩)) (hq : Quiet 3 R) : unionOf br s = (n, ⟨R, 0⟩) := union_one h (hq.2.2.2 (by omega))
/-- How a node's tokens are read at each height. -/
structure Read8 (d : Nat) (n : Nd) : Prop where
  u : ∀ R, Quiet 3 R → unionOf (brk d) ⟨toksN n ++ R, 0⟩ = (n, ⟨R, 0⟩)
  m : n.kind ≠ 4 → ∀ R, Quiet 2 R → meetOf (brk d) ⟨toksN n ++ R, 0⟩ = (n, ⟨R, 0⟩)
  l : n.kind ≠ 4 → n.kind ≠ 5 → ∀ R, Quiet 1 R → lessOf (brk d) ⟨toksN n ++ R, 0⟩ = (n, ⟨R, 0⟩)
  a : n.kind ≤ 3 → ∀ R, Quiet 0 R → atomOf (brk d) ⟨toksN n ++ R, 0⟩ = (n, ⟨R, 0⟩)
theorem Read8.of_atom {d : Nat} {n : Nd} (h : ∀ R, Quiet 0 R → atomOf (brk d) ⟨toksN n ++ R, 0⟩ = (n, ⟨R, 0⟩)) : Read8 d n :=
  have hl := fun R (hq : Quiet 1 R) => less_up (h R (hq.mono (by omega))) hq
  have hm := fun R (hq : Quiet 2 R) => meet_up (hl R (hq.mono (by omega))) hq
  ⟨fun R hq => union_up (hm R (hq.mono (by omega))) hq, fun _ => hm, fun _ _ => hl, fun _ => h⟩
/-- Brackets. -/
theorem brk_read {d : Nat} {n : Nd} (h : Read8 d n) (R : List K) : atomOf (brk (d + 1)) ⟨inBr true (toksN n) ++ R, 0⟩ = (n, ⟨R, 0⟩) := by
  have e : inBr true (toksN n) ++ R = (40, [40]) :: (toksN n ++ (41, [41]) :: R) := by
    rw [inBr, if_pos rfl]
    simp
  rw [e, show ((40, [40]) :: (toksN n ++ (41, [41]) :: R) : List K) = B (toksN n) R from rfl, atom_B, brk]
  have hn : need ⟨B (toksN n) R, 0⟩ 40 = ⟨toksN n ++ (41, [41]) :: R, 0⟩ := by
    rw [need, if_pos (next_B _ _)]
    rfl
  rw [hn, h.u ((41, [41]) :: R) (quiet_on (by decide) (by decide) (by decide) (by decide))]
  simp only
  rw [need, if_pos (by rfl)]
  rfl
theorem inBr_no (T R : List K) : inBr false T ++ R = T ++ R := rfl
/-- A part of a union, of a meet, of an except. -/
theorem part_meet {d : Nat} {n : Nd} (h : Read8 (d + 1) n) (h' : Read8 d n) (R : List K) (hq : Quiet 2 R) : meetOf (brk (d + 1)) ⟨inBr (needsB 4 n.kind) (toksN n) ++ R, 0⟩ = (n, ⟨R, 0⟩) := by
  by_cases hk : n.kind = 4
  · rw [show needsB 4 n.kind = true by rw [hk]; rfl]
    exact meet_up (less_up (brk_read h' R) (hq.mono (by omega))) hq
  · rw [show needsB 4 n.kind = false by simp [needsB, hk], inBr_no]
    exact h.m hk R hq
theorem part_less {d : Nat} {n : Nd} (h : Read8 (d + 1) n) (h' : Read8 d n) (R : List K) (hq : Quiet 1 R) : lessOf (brk (d + 1)) ⟨inBr (needsB 5 n.kind) (toksN n) ++ R, 0⟩ = (n, ⟨R, 0⟩) := by
  by_cases hk : n.kind = 4 ∨ n.kind = 5
  · rw [show needsB 5 n.kind = true by rcases hk with hk | hk <;> rw [hk] <;> rfl]
    exact less_up (brk_read h' R) hq
  · have h4 : n.kind ≠ 4 := fun e => hk (.inl e)
    have h5 : n.kind ≠ 5 := fun e => hk (.inr e)
    rw [show needsB 5 n.kind = false by simp [needsB, h4, h5], inBr_no]
    exact h.l h4 h5 R hq
theorem part_atom {d : Nat} {n : Nd} (h : Read8 (d + 1) n) (h' : Read8 d n) (R : List K) (hq : Quiet 0 R) : atomOf (brk (d + 1)) ⟨inBr (needsB 6 n.kind) (toksN n) ++ R, 0⟩ = (n, ⟨R, 0⟩) := by
  by_cases hk : 4 ≤ n.kind
  · rw [show needsB 6 n.kind = true by simp [needsB, hk]]
    exact brk_read h' R
  · rw [show needsB 6 n.kind = false by simp [needsB]; omega, inBr_no]
    exact h.a (by omega) R hq
/-- What a good node is. -/
theorem good_cases {k : Int} {a b : ByteArray} {l : List Nd} (h : good (.mk k a b l) = true) :
    (k = 1 ∧ a = none0 ∧ b = none0 ∧ l = []) ∨ (k = 2 ∧ Tr.word a = true ∧ b = none0 ∧ l = []) ∨ (k = 3 ∧ Tr.word a = true ∧ Tr.word b = true ∧ l = []) ∨
    (k = 4 ∧ a = none0 ∧ b = none0 ∧ 2 ≤ l.length ∧ goods l = true) ∨ (k = 5 ∧ a = none0 ∧ b = none0 ∧ 2 ≤ l.length ∧ goods l = true) ∨ (k = 6 ∧ a = none0 ∧ b = none0 ∧ goods l = true ∧ ∃ x y, l = [x, y]) := by
  rw [good, Bool.and_eq_true] at h
  obtain ⟨hg, hf⟩ := h
  simp only [fits, Bool.or_eq_true, Bool.and_eq_true, beq_iff_eq, decide_eq_true_eq] at hf
  rcases hf with (((⟨h, ⟨h1, h2⟩, h3⟩ | ⟨h, ⟨h1, h2⟩, h3⟩) | ⟨h, ⟨h1, h2⟩, h3⟩) | ⟨h, ⟨h1, h2⟩, h3⟩) | ⟨h, ⟨h1, h2⟩, h3⟩
  · exact .inl ⟨h, nil_none h1, nil_none h2, List.eq_nil_of_length_eq_zero h3⟩
  · exact .inr (.inl ⟨h, h1, nil_none h2, List.eq_nil_of_length_eq_zero h3⟩)
  · exact .inr (.inr (.inl ⟨h, h1, h2, List.eq_nil_of_length_eq_zero h3⟩))
  · rcases h with h | h
    · exact .inr (.inr (.inr (.inl ⟨h, nil_none h1, nil_none h2, h3, hg⟩)))
    · exact .inr (.inr (.inr (.inr (.inl ⟨h, nil_none h1, nil_none h2, h3, hg⟩))))
  · refine .inr (.inr (.inr (.inr (.inr ⟨h, nil_none h1, nil_none h2, hg, ?_⟩))))
    match l, h3 with
    | [x, y], _ => exact ⟨x, y, rfl⟩
theorem joined_many {k : Int} {l : List Nd} (h : 2 ≤ l.length) : joined k l = .mk k none0 none0 l := by
  match l, h with
  | _ :: _ :: _, _ => rfl
theorem depths_mem : ∀ {l : List Nd} {n : Nd}, n ∈ l → depth n ≤ depths l
  | m :: l, n, h => by
    rw [depths]
    rcases List.mem_cons.1 h with rfl | h
    · omega
    · have := depths_mem h; omega
theorem read_this {d : Nat} : Read8 d (.mk 1 none0 none0 []) := Read8.of_atom fun R _ => by
  rw [toksN, if_pos rfl]
  rfl
theorem read_word {d : Nat} (a : ByteArray) : Read8 d (.mk 2 a none0 []) := Read8.of_atom fun R hq => by
  rw [toksN, if_neg (by decide), if_pos rfl]
  have hw : word ⟨[(1, wd a)] ++ R, 0⟩ = (a, ⟨R, 0⟩) := by
    rw [word, if_pos (by rfl)]
    show (txt (wd a), _) = _
    rw [txt_wd]
    rfl
  unfold atomOf
  rw [hw]
  rw [if_neg (by simp [next, headK]), if_neg (by simp [next, headK]), if_neg (by rw [next_head]; exact hq.1)]
theorem read_arrow {d : Nat} (a b : ByteArray) : Read8 d (.mk 3 a b []) := Read8.of_atom fun R _ => by
  rw [toksN, if_neg (by decide), if_neg (by decide), if_pos rfl]
  have hw : word ⟨[(1, wd a), (5, [45, 62]), (1, wd b)] ++ R, 0⟩ = (a, ⟨(5, [45, 62]) :: (1, wd b) :: R, 0⟩) := by
    rw [word, if_pos (by rfl)]
    show (txt (wd a), _) = _
    rw [txt_wd]
    rfl
  have hw2 : word (tl ⟨(5, [45, 62]) :: (1, wd b) :: R, 0⟩) = (b, ⟨R, 0⟩) := by
    rw [word, if_pos (by rfl)]
    show (txt (wd b), _) = _
    rw [txt_wd]
    rfl
  unfold atomOf
  rw [hw]
  simp only
  rw [hw2, if_neg (by simp [next, headK]), if_neg (by simp [next, headK]), if_pos (by rfl)]
theorem read_node : ∀ (q : Nat) (n : Nd) (d : Nat), size n ≤ q → good n = true → depth n ≤ d + 1 → Read8 d n
  | 0, n, _, h, _, _ => by have := size_pos n; omega
  | q + 1, .mk k a b l, d, hs, hg, hd => by
    rw [size] at hs
    rw [depth] at hd
    rcases good_cases hg with ⟨rfl, rfl, rfl, rfl⟩ | ⟨rfl, -, rfl, rfl⟩ | ⟨rfl, -, -, rfl⟩ | ⟨rfl, rfl, rfl, hl, hgl⟩ | ⟨rfl, rfl, rfl, hl, hgl⟩ | ⟨rfl, rfl, rfl, hgl, x, y, rfl⟩
    · exact read_this
    · exact read_word a
    · exact read_arrow a b
    all_goals
      have hd0 : ∃ e, d = e + 1 := by
        cases d with
        | succ e => exact ⟨e, rfl⟩
        | zero =>
          exfalso
          first
            | (have h1 : 0 < l.length := by omega
               have := depths_mem (List.getElem_mem (l := l) (n := 0) h1)
               have := Tr.depth_pos l[0]
               omega)
            | (have := depths_mem (l := [x, y]) (n := x) (by simp)
               have := Tr.depth_pos x
               omega)
      obtain ⟨e, rfl⟩ := hd0
    · have hp : ∀ m ∈ l, Read8 (e + 1) m ∧ Read8 e m := fun m hm => by
        have := sizes_mem hm
        have := depths_mem hm
        have hgm := Tr.goods_mem hgl hm
        exact ⟨read_node q m (e + 1) (by omega) hgm (by omega), read_node q m e (by omega) hgm (by omega)⟩
      refine ⟨fun R hq => ?_, fun h => absurd rfl h, fun h => absurd rfl h, fun h => absurd h (by show ¬ (_ : Int) ≤ 3; simp [Nd.kind])⟩
      match l, hl with
      | m :: r, hl =>
        rw [toksN, if_neg (by decide), if_neg (by decide), if_neg (by decide), toksL, if_pos rfl, List.nil_append, List.append_assoc]
        have hc : Quiet 2 (toksL 4 false r ++ R) := by
          cases r with
          | nil => rw [toksL]; exact hq.mono (by omega)
          | cons u v => rw [toksL, if_neg (by decide)]; exact quiet_on (k := 124) (by decide) (by decide) (by decide) (by omega)
        have h1 := part_meet (hp m (by simp)).1 (hp m (by simp)).2 (toksL 4 false r ++ R) hc
        have h2 := eachs_parts (one := meetOf (brk (e + 1))) (meet_fine (brk_fine (e + 1))) (k := 124) (kd := 4) rfl (by decide) (Quiet 2) (fun _ _ => quiet_on (by decide) (by decide) (by decide) (by omega)) r
          (fun m hm R hR => part_meet (hp m (by simp [hm])).1 (hp m (by simp [hm])).2 R hR) R (hq.mono (by omega)) (hq.2.2.2 (by omega))
        unfold unionOf list
        rw [h1]
        simp only
        rw [h2]
        simp only
        rw [joined_many hl]
    · have hp : ∀ m ∈ l, Read8 (e + 1) m ∧ Read8 e m := fun m hm => by
        have := sizes_mem hm
        have := depths_mem hm
        have hgm := Tr.goods_mem hgl hm
        exact ⟨read_node q m (e + 1) (by omega) hgm (by omega), read_node q m e (by omega) hgm (by omega)⟩
      have hm : ∀ R, Quiet 2 R → meetOf (brk (e + 1)) ⟨toksN (.mk 5 none0 none0 l) ++ R, 0⟩ = (.mk 5 none0 none0 l, ⟨R, 0⟩) := fun R hq => by
        match l, hl with
        | m :: r, hl =>
          rw [toksN, if_neg (by decide), if_neg (by decide), if_neg (by decide), toksL, if_pos rfl, List.nil_append, List.append_assoc]
          have hc : Quiet 1 (toksL 5 false r ++ R) := by
            cases r with
            | nil => rw [toksL]; exact hq.mono (by omega)
            | cons u v => rw [toksL, if_neg (by decide)]; exact ⟨by show (38 : Int) ≠ 5; decide, fun _ => by show (38 : Int) ≠ 45; decide, by omega, by omega⟩
          have h1 := part_less (hp m (by simp)).1 (hp m (by simp)).2 (toksL 5 false r ++ R) hc
          have h2 := eachs_parts (one := lessOf (brk (e + 1))) (less_fine (brk_fine (e + 1))) (k := 38) (kd := 5) rfl (by decide) (Quiet 1) (fun _ _ => ⟨by show (38 : Int) ≠ 5; decide, fun _ => by show (38 : Int) ≠ 45; decide, by omega, by omega⟩) r
            (fun m hm R hR => part_less (hp m (by simp [hm])).1 (hp m (by simp [hm])).2 R hR) R (hq.mono (by omega)) (hq.2.2.1 (by omega))
          unfold meetOf list
          rw [h1]
          simp only
          rw [h2]
          simp only
          rw [joined_many hl]
      exact ⟨fun R hq => union_up (hm R (hq.mono (by omega))) hq, fun _ => hm, fun _ h => absurd rfl h, fun h => absurd h (by show ¬ (_ : Int) ≤ 3; simp [Nd.kind])⟩
    · have hp : ∀ m ∈ [x, y], Read8 (e + 1) m ∧ Read8 e m := fun m hm => by
        have := sizes_mem hm
        have := depths_mem hm
        have hgm := Tr.goods_mem hgl hm
        exact ⟨read_node q m (e + 1) (by omega) hgm (by omega), read_node q m e (by omega) hgm (by omega)⟩
      have hl : ∀ R, Quiet 1 R → lessOf (brk (e + 1)) ⟨toksN (.mk 6 none0 none0 [x, y]) ++ R, 0⟩ = (.mk 6 none0 none0 [x, y], ⟨R, 0⟩) := fun R hq => by
        have e1 : toksN (.mk 6 none0 none0 [x, y]) ++ R = inBr (needsB 6 x.kind) (toksN x) ++ ((45, [45]) :: (inBr (needsB 6 y.kind) (toksN y) ++ R)) := by
          rw [toksN, if_neg (by decide), if_neg (by decide), if_neg (by decide)]
          simp [toksL, sgn]
        rw [e1]
        exact less_two (part_atom (hp x (by simp)).1 (hp x (by simp)).2 _ ⟨by show (45 : Int) ≠ 5; decide, by omega, by omega, by omega⟩) rfl (part_atom (hp y (by simp)).1 (hp y (by simp)).2 R (hq.mono (by omega)))
      have hm := fun R (hq : Quiet 2 R) => meet_up (hl R (hq.mono (by omega))) hq
      exact ⟨fun R hq => union_up (hm R (hq.mono (by omega))) hq, fun _ => hm, fun _ _ => hl, fun h => absurd h (by show ¬ (_ : Int) ≤ 3; simp [Nd.kind])⟩
/-- The whole: a good node of at most nine heights. -/
theorem read_expr {n : Nd} (hg : good n = true) (hd : depth n ≤ 8) : union ⟨toksN n, 0⟩ = (n, ⟨[], 0⟩) := by
  have h := (read_node _ n 8 (Nat.le_refl _) hg (by omega)).u [] ⟨by decide, by decide, by decide, by decide⟩
  rw [List.append_nil] at h
  exact h
end Gr
end Go.Proofs.YtopncohhagebbaaDoor

namespace Go.Proofs.YtopncohhagebbaaDoor
open Go.RowKit
namespace Gr
open Tr (Nd none0 good goods fits size sizes depth depths size_pos sizes_mem)
open Sg (Tok kt lex piece run inWord letter sign kindOf)

/-! ### pieces of text, one behind the other -/
/-- A text's tokens, whatever stands behind it that fulfils C. -/
def Lx (C : List Nat → Prop) (T : List Nat) (Ks : List K) : Prop := ∀ R p, C R → ∃ p' ts, kt ts = Ks ∧ lex p (T ++ R) = (ts ++ (lex p' R).1, (lex p' R).2)
def CW (R : List Nat) : Prop := inWord (R.headD 0) = false
def CT (_ : List Nat) : Prop := True
theorem Lx.nil (C : List Nat → Prop) : Lx C [] [] := fun _ p _ => ⟨p, [], rfl, rfl⟩
theorem Lx.seq {C D : List Nat → Prop} {S T : List Nat} {Ks Ls : List K} (h : Lx D S Ks) (k : Lx C T Ls) (hC : ∀ R, C R → D (T ++ R)) : Lx C (S ++ T) (Ks ++ Ls) := fun R p hR => by
  obtain ⟨p1, t1, h1, e1⟩ := h (T ++ R) p (hC R hR)
  obtain ⟨p2, t2, h2, e2⟩ := k R p1 hR
  refine ⟨p2, t1 ++ t2, by rw [Sg.kt_append, h1, h2], ?_⟩
  rw [List.append_assoc, e1, e2, List.append_assoc]
theorem Lx.weak {C D : List Nat → Prop} {S : List Nat} {Ks : List K} (h : Lx D S Ks) (hC : ∀ R, C R → D R) : Lx C S Ks := fun R p hR => h R p (hC R hR)
theorem lx_sign {r : Nat} (h : sign r = true) (hr : r ≠ 45) : Lx CT [r] [((r : Int), [r])] := fun R p _ => ⟨_, [⟨(r : Int), [r], p⟩], rfl, Sg.lex_sign h hr R p⟩
theorem lx_blank {r : Nat} (h : Sg.blank r = true) : Lx CT [r] [] := fun _ _ _ => ⟨_, [], rfl, Sg.lex_blank h⟩
theorem lx_minus : Lx CT [45, 32] [(45, [45])] := fun R p _ => by
  refine ⟨Sg.behind (Sg.behind p 45) 32, [⟨45, [45], p⟩], rfl, ?_⟩
  show lex p (45 :: 32 :: R) = _
  rw [Sg.lex_minus (by simp) p, Sg.lex_blank (by decide)]
  rfl
theorem lx_arrow : Lx CT [45, 62] [(5, [45, 62])] := fun R p _ => by
  have hp : piece (45 :: 62 :: R) = (5, 2) := by
    rw [piece, if_neg (by decide), if_neg (fun e => absurd e.1 (by decide)), if_neg (by decide), if_pos ⟨rfl, rfl⟩]
  have := Sg.lex_tok (p := p) (q := 45 :: 62 :: R) (by simp) (by rw [hp]; decide) (by rw [hp]; decide)
  rw [hp] at this
  exact ⟨_, [⟨5, [45, 62], p⟩], rfl, this⟩
theorem run_front {f : Nat → Bool} (h0 : f 0 = false) : ∀ {a R : List Nat}, (∀ x ∈ a, f x = true) → f (R.headD 0) = false → run f (a ++ R) = a.length
  | [], [], _, _ => rfl
  | [], r :: R, _, h => Sg.run_stop _ h
  | x :: a, R, h, hR => by
    rw [List.cons_append, Sg.run_cons _ (h x (by simp)), run_front h0 (fun z hz => h z (by simp [hz])) hR, List.length_cons]
/-- Words, the keywords among them. -/
theorem lx_letters {r : Nat} {t : List Nat} (hr : letter r = true) (ht : ∀ x ∈ t, inWord x = true) (hl : t.length + 1 ≤ 16) : Lx CW (r :: t) [(kindOf (r :: t), r :: t)] := fun R p hR => by
  have hrun : run inWord (r :: (t ++ R)) = (r :: t).length := run_front (a := r :: t) (by decide) (fun x hx => by
    rcases List.mem_cons.1 hx with rfl | hx
    · exact Sg.letter_inWord hr
    · exact ht x hx) hR
  have h47 : r ≠ 47 ∧ r ≠ 45 := by simp only [letter, decide_eq_true_eq] at hr; omega
  have htk : (r :: (t ++ R)).take (t.length + 1) = r :: t := by simp
  have hdr : (r :: (t ++ R)).drop (t.length + 1) = R := by simp
  have hp : piece (r :: (t ++ R)) = (kindOf (r :: t), t.length + 1) := by
    rw [piece, if_neg (by rw [Sg.letter_blank hr]; decide), if_neg (fun e => h47.1 e.1), if_pos hr, Sg.word, hrun, List.length_cons, if_neg (by omega), htk]
  have hk := Sg.kindOf_pos (r :: t)
  have := Sg.lex_tok (p := p) (q := r :: (t ++ R)) (by simp) (by rw [hp]; simp only; omega) (by rw [hp]; simp only; omega)
  rw [hp] at this
  simp only at this
  rw [htk, hdr] at this
  exact ⟨_, [⟨kindOf (r :: t), r :: t, p⟩], rfl, this⟩
theorem name_in : ∀ (l : List UInt8), Gly.nameOk false l = true → ∀ x ∈ l.map UInt8.toNat, inWord x = true
  | [], _, x, hx => by simp at hx
  | c :: t, h, x, hx => by
    simp only [Gly.nameOk, Bool.and_eq_true, Bool.or_eq_true, Bool.not_false, Bool.true_and, beq_iff_eq] at h
    rcases List.mem_cons.1 hx with rfl | hx
    · have h1 := h.1
      simp only [Gly.letterB, Gly.digitB, decide_eq_true_eq] at h1
      simp only [inWord, decide_eq_true_eq]
      omega
    · exact name_in t h.2 x hx
theorem lx_word {a : ByteArray} (h : Tr.word a = true) : Lx CW (wd a) [(1, wd a)] := by
  unfold wd
  unfold Tr.word at h
  cases hl : a.data.toList with
  | nil => rw [hl] at h; simp [Gly.nameB] at h
  | cons c t =>
    rw [hl] at h
    simp only [Gly.nameB, Bool.and_eq_true, decide_eq_true_eq, Bool.not_eq_true', beq_eq_false_iff_ne] at h
    obtain ⟨⟨⟨-, h16⟩, hn⟩, ⟨h1, h2⟩, h3⟩ := h
    simp only [Gly.nameOk, Bool.and_eq_true, Bool.or_eq_true, Bool.not_true, Bool.false_and, Bool.false_eq_true, or_false] at hn
    have hr : letter c.toNat = true := by
      have := hn.1
      simp only [Gly.letterB, decide_eq_true_eq] at this
      simp only [letter, decide_eq_true_eq]
      omega
    have hk : kindOf (c.toNat :: t.map UInt8.toNat) = 1 := by
      have inj : ∀ (u : List UInt8), c.toNat :: t.map UInt8.toNat = u.map UInt8.toNat → c :: t = u := fun u e => by
        have e2 := congrArg (List.map Nat.toUInt8) e
        rw [List.map_cons, List.map_map, List.map_map, show (Nat.toUInt8 ∘ UInt8.toNat) = id by funext b; simp] at e2
        simpa using e2
      have i1 : c.toNat :: t.map UInt8.toNat ≠ [116, 121, 112, 101] := fun e => h1 (inj [116, 121, 112, 101] e)
      have i2 : c.toNat :: t.map UInt8.toNat ≠ [114, 101, 108] := fun e => h2 (inj [114, 101, 108] e)
      have i3 : c.toNat :: t.map UInt8.toNat ≠ [116, 104, 105, 115] := fun e => h3 (inj [116, 104, 105, 115] e)
      unfold kindOf
      rw [if_neg i1, if_neg i2, if_neg i3]
    have hx := lx_letters hr (name_in t hn.2) (by rw [List.length_map]; rw [List.length_cons] at h16; exact h16)
    rw [hk] at hx
    exact hx

/-! ### an expression's text -/
def sepB (k : Int) : List UInt8 := if k = 4 then [32, 124, 32] else if k = 5 then [32, 38, 32] else [32, 45, 32]
def inTx (c : Bool) (T : List UInt8) : List UInt8 := if c then 40 :: (T ++ [41]) else T
mutual
def prN : Nd → List UInt8
  | .mk k a b l => if k = 1 then [116, 104, 105, 115] else if k = 2 then a.data.toList else if k = 3 then a.data.toList ++ ([45, 62] ++ b.data.toList) else prL k true l
def prL (k : Int) : Bool → List Nd → List UInt8
  | _, [] => []
  | f, n :: r => (if f then [] else sepB k) ++ (inTx (needsB k n.kind) (prN n) ++ prL k false r)
end
abbrev rn (l : List UInt8) : List Nat := l.map UInt8.toNat
theorem rn_app (a b : List UInt8) : rn (a ++ b) = rn a ++ rn b := List.map_append
theorem lx_sep {k : Int} (hk : k = 4 ∨ k = 5 ∨ k = 6) : Lx CT (rn (sepB k)) [sgn k] := by
  rcases hk with rfl | rfl | rfl
  · exact Lx.seq (Ks := []) (lx_blank (r := 32) (by decide)) (Lx.seq (Ls := []) (lx_sign (r := 124) (by decide) (by decide)) (lx_blank (r := 32) (by decide)) fun _ _ => trivial) fun _ _ => trivial
  · exact Lx.seq (Ks := []) (lx_blank (r := 32) (by decide)) (Lx.seq (Ls := []) (lx_sign (r := 38) (by decide) (by decide)) (lx_blank (r := 32) (by decide)) fun _ _ => trivial) fun _ _ => trivial
  · exact Lx.seq (Ks := []) (lx_blank (r := 32) (by decide)) lx_minus fun _ _ => trivial
theorem lx_in {c : Bool} {T : List UInt8} {Ks : List K} (h : Lx CW (rn T) Ks) : Lx CW (rn (inTx c T)) (inBr c Ks) := by
  cases c with
  | false => exact h
  | true =>
    have h1 := Lx.seq h (lx_sign (r := 41) (by decide) (by decide)) (C := CT) (fun R _ => (by decide : inWord 41 = false))
    have h2 := Lx.seq (lx_sign (r := 40) (by decide) (by decide)) h1 (C := CT) fun _ _ => trivial
    have e1 : rn (inTx true T) = [40] ++ (rn T ++ [41]) := by simp [inTx, rn]
    rw [e1]
    exact h2.weak fun _ _ => trivial
theorem prL_head {k : Int} (hk : k = 4 ∨ k = 5 ∨ k = 6) (r : List Nd) {R : List Nat} (hR : CW R) : CW (rn (prL k false r) ++ R) := by
  cases r with
  | nil => rw [prL]; exact hR
  | cons n r =>
    rw [prL, if_neg (by decide)]
    rcases hk with rfl | rfl | rfl <;> exact (by decide : inWord 32 = false)
theorem lx_list {k : Int} (hk : k = 4 ∨ k = 5 ∨ k = 6) : ∀ (l : List Nd) (f : Bool), (∀ m ∈ l, Lx CW (rn (prN m)) (toksN m)) → Lx CW (rn (prL k f l)) (toksL k f l)
  | [], f, _ => by rw [prL, toksL]; exact Lx.nil _
  | n :: r, f, h => by
    rw [prL, toksL, rn_app, rn_app]
    have h1 := Lx.seq (lx_in (c := needsB k n.kind) (h n (by simp))) (lx_list hk r false fun m hm => h m (by simp [hm])) (C := CW) fun R hR => prL_head hk r hR
    cases f with
    | true => exact h1
    | false => exact Lx.seq (lx_sep hk) h1 (C := CW) fun _ _ => trivial
theorem lx_node : ∀ (q : Nat) (n : Nd), size n ≤ q → good n = true → Lx CW (rn (prN n)) (toksN n)
  | 0, n, h, _ => by have := size_pos n; omega
  | q + 1, .mk k a b l, hs, hg => by
    rw [size] at hs
    have hkids : goods l = true → ∀ m ∈ l, Lx CW (rn (prN m)) (toksN m) := fun hgl m hm => by
      have := sizes_mem hm
      exact lx_node q m (by omega) (Tr.goods_mem hgl hm)
    rcases good_cases hg with ⟨rfl, rfl, rfl, rfl⟩ | ⟨rfl, ha, rfl, rfl⟩ | ⟨rfl, ha, hb, rfl⟩ | ⟨rfl, rfl, rfl, -, hgl⟩ | ⟨rfl, rfl, rfl, -, hgl⟩ | ⟨rfl, rfl, rfl, hgl, x, y, rfl⟩
    · rw [prN, toksN, if_pos rfl, if_pos rfl]
      exact lx_letters (r := 116) (t := [104, 105, 115]) (by decide) (by decide) (by decide)
    · rw [prN, toksN, if_neg (by decide), if_pos rfl, if_neg (by decide), if_pos rfl]
      exact lx_word ha
    · rw [prN, toksN, if_neg (by decide), if_neg (by decide), if_pos rfl, if_neg (by decide), if_neg (by decide), if_pos rfl, rn_app, rn_app]
      exact Lx.seq (lx_word ha) (Lx.seq lx_arrow (lx_word hb) (C := CW) fun _ _ => trivial) (C := CW) fun R _ => (by decide : inWord 45 = false)
    · rw [prN, toksN, if_neg (by decide), if_neg (by decide), if_neg (by decide), if_neg (by decide), if_neg (by decide), if_neg (by decide)]
      exact lx_list (.inl rfl) l true (hkids hgl)
    · rw [prN, toksN, if_neg (by decide), if_neg (by decide), if_neg (by decide), if_neg (by decide), if_neg (by decide), if_neg (by decide)]
      exact lx_list (.inr (.inl rfl)) l true (hkids hgl)
    · rw [prN, toksN, if_neg (by decide), if_neg (by decide), if_neg (by decide), if_neg (by decide), if_neg (by decide), if_neg (by decide)]
      exact lx_list (.inr (.inr rfl)) [x, y] true (hkids hgl)
/-- The whole text. -/
theorem Lx.whole {T : List Nat} {Ks : List K} (h : Lx CW T Ks) (p : Nat × Nat) : kt (lex p T).1 = Ks ∧ (lex p T).2.2 = true := by
  obtain ⟨p', ts, h1, h2⟩ := h [] p (show inWord 0 = false by decide)
  rw [List.append_nil] at h2
  rw [h2, Sg.lex_nil]
  simp only [List.append_nil]
  exact ⟨h1, trivial⟩

/-! ### bytes -/
theorem runes_ascii : ∀ {l : List UInt8}, (∀ b ∈ l, b.toNat < 128) → Gly.runes l = some (rn l)
  | [], _ => by rw [Gly.runes_nil]; rfl
  | b :: l, h => by
    rw [runes_one (h b (by simp)), runes_ascii fun x hx => h x (by simp [hx])]
    rfl
theorem word_low {a : ByteArray} (h : Tr.word a = true) : ∀ b ∈ a.data.toList, b.toNat < 128 := fun b hb => by
  unfold Tr.word at h
  simp only [Bool.and_eq_true, Gly.nameB] at h
  have hn := h.1.2
  cases hl : a.data.toList with
  | nil => rw [hl] at hb; simp at hb
  | cons c t =>
    rw [hl] at hb hn
    simp only [Gly.nameOk, Bool.and_eq_true, Bool.or_eq_true, Bool.not_true, Bool.false_and, Bool.false_eq_true, or_false] at hn
    rcases List.mem_cons.1 hb with rfl | hb
    · have := hn.1
      simp only [Gly.letterB, decide_eq_true_eq] at this
      omega
    · exact Sg.inWord_low (name_in t hn.2 _ (List.mem_map_of_mem hb))
theorem word_len {a : ByteArray} (h : Tr.word a = true) : a.data.toList.length ≤ 16 := by
  unfold Tr.word at h
  simp only [Bool.and_eq_true, Gly.nameB, decide_eq_true_eq] at h
  exact h.1.1.2
theorem inTx_low {c : Bool} {T : List UInt8} (h : ∀ b ∈ T, b.toNat < 128) : ∀ b ∈ inTx c T, b.toNat < 128 := fun b hb => by
  cases c with
  | false => exact h b hb
  | true =>
    rw [inTx, if_pos rfl] at hb
    rcases List.mem_cons.1 hb with rfl | hb
    · decide
    · rcases List.mem_append.1 hb with hb | hb
      · exact h b hb
      · rw [List.mem_singleton] at hb; subst hb; decide
theorem sep_low {k : Int} : ∀ b ∈ sepB k, b.toNat < 128 := by
  unfold sepB
  split
  · decide
  · split <;> decide
theorem prL_low {k : Int} : ∀ (l : List Nd) (f : Bool), (∀ m ∈ l, ∀ b ∈ prN m, b.toNat < 128) → ∀ b ∈ prL k f l, b.toNat < 128
  | [], f, _, b, hb => by rw [prL] at hb; simp at hb
  | n :: r, f, h, b, hb => by
    rw [prL] at hb
    rcases List.mem_append.1 hb with hb | hb
    · cases f with
      | true => simp at hb
      | false => exact sep_low b hb
    · rcases List.mem_append.1 hb with hb | hb
      · exact inTx_low (h n (by simp)) b hb
      · exact prL_low r false (fun m hm => h m (by simp [hm])) b hb
theorem prL_len {k : Int} : ∀ (l : List Nd) (f : Bool), (∀ m ∈ l, (prN m).length + 5 ≤ 45 * size m) → (prL k f l).length ≤ 45 * sizes l
  | [], f, _ => by rw [prL]; simp
  | n :: r, f, h => by
    rw [prL, sizes, List.length_append, List.length_append]
    have h1 := h n (by simp)
    have h2 := prL_len (k := k) r false fun m hm => h m (by simp [hm])
    have h3 : (if f = true then ([] : List UInt8) else sepB k).length ≤ 3 := by
      cases f with
      | true => simp
      | false =>
        rw [if_neg (by decide)]
        unfold sepB
        split
        · decide
        · split <;> decide
    have h4 : (inTx (needsB k n.kind) (prN n)).length ≤ (prN n).length + 2 := by
      cases needsB k n.kind with
      | false => exact Nat.le_add_right _ _
      | true => rw [inTx, if_pos rfl]; simp
    omega
theorem node_low : ∀ (q : Nat) (n : Nd), size n ≤ q → good n = true → (∀ b ∈ prN n, b.toNat < 128) ∧ (prN n).length + 5 ≤ 45 * size n
  | 0, n, h, _ => by have := size_pos n; omega
  | q + 1, .mk k a b l, hs, hg => by
    rw [size] at hs ⊢
    have hkids : goods l = true → ∀ m ∈ l, (∀ b ∈ prN m, b.toNat < 128) ∧ (prN m).length + 5 ≤ 45 * size m := fun hgl m hm => by
      have := sizes_mem hm
      exact node_low q m (by omega) (Tr.goods_mem hgl hm)
    have hmany : goods l = true → (∀ b ∈ prL k true l, b.toNat < 128) ∧ (prL k true l).length ≤ 45 * sizes l := fun hgl => ⟨prL_low l true fun m hm => (hkids hgl m hm).1, prL_len l true fun m hm => (hkids hgl m hm).2⟩
    rcases good_cases hg with ⟨rfl, rfl, rfl, rfl⟩ | ⟨rfl, ha, rfl, rfl⟩ | ⟨rfl, ha, hb, rfl⟩ | ⟨rfl, rfl, rfl, -, hgl⟩ | ⟨rfl, rfl, rfl, -, hgl⟩ | ⟨rfl, rfl, rfl, hgl, x, y, rfl⟩
    · rw [prN, if_pos rfl]
      exact ⟨by decide, by simp only [List.length_cons, List.length_nil]; omega⟩
    · rw [prN, if_neg (by decide), if_pos rfl]
      have := word_len ha
      exact ⟨word_low ha, by omega⟩
    · rw [prN, if_neg (by decide), if_neg (by decide), if_pos rfl]
      have h1 := word_len ha
      have h2 := word_len hb
      refine ⟨fun c hc => ?_, by simp only [List.length_append, List.length_cons, List.length_nil]; omega⟩
      rcases List.mem_append.1 hc with hc | hc
      · exact word_low ha c hc
      · rcases List.mem_append.1 hc with hc | hc
        · have h0 : ∀ c ∈ ([45, 62] : List UInt8), c.toNat < 128 := by decide
          exact h0 c hc
        · exact word_low hb c hc
    all_goals
      rw [prN, if_neg (by decide), if_neg (by decide), if_neg (by decide)]
      have hm := hmany hgl
      exact ⟨hm.1, by omega⟩
/-- A good node's text is read as it. -/
theorem print_read {n : Nd} {s : ByteArray} (hg : good n = true) (hs : size n ≤ 24) (hd : depth n ≤ 8) (ht : s.data.toList = prN n) : (exprA s).2.2 = 0 ∧ (exprA s).1 = n := by
  obtain ⟨h1, h2⟩ := node_low _ n (Nat.le_refl _) hg
  have hr : Gly.runes s.data.toList = some (rn (prN n)) := by rw [ht]; exact runes_ascii h1
  obtain ⟨k1, k2⟩ := (lx_node _ n (Nat.le_refl _) hg).whole (1, 1)
  unfold exprA
  rw [hr]
  refine (answer_of (x := n) (by rw [List.length_map]; omega) k2).1 ?_
  rw [k1]
  exact read_expr hg hd
end Gr
end Go.Proofs.YtopncohhagebbaaDoor

namespace Go.Proofs.YtopncohhagebbaaDoor
open Go.RowKit
namespace Gr
open Tr (Nd none0 good goods fits size sizes depth depths size_pos sizes_mem)
open Sg (Tok kt lex piece run inWord letter sign kindOf)

/-! ### tokens, and how they are read -/
def toksA (a : Al) : List K := (1, wd a.ty) :: ((if Tr.nil a.rel then [] else [(35, [35]), (1, wd a.rel)]) ++ (if a.wild then [(58, [58]), (42, [42])] else []))
def toksAl : List Al → List K
  | [] => []
  | a :: r => (91, [91]) :: (toksA a ++ (r.flatMap (fun a => (44, [44]) :: toksA a) ++ [(93, [93])]))
/-- Behind the token rel. -/
def toksR (r : Rl) : List K := (1, wd r.name) :: (toksAl r.allow ++ ((61, [61]) :: (toksN r.expr ++ [(59, [59])])))
/-- Behind the token type. -/
def toksT (t : Ty) : List K := (1, wd t.name) :: ((123, [123]) :: (t.rels.flatMap (fun r => (3, [114, 101, 108]) :: toksR r) ++ [(125, [125])]))
def toksC (l : List Ty) : List K := l.flatMap fun t => (2, [116, 121, 112, 101]) :: toksT t
def WA (a : Al) : Prop := Tr.word a.ty = true ∧ (a.rel = none0 ∨ a.wild = false ∧ Tr.word a.rel = true)
def WR (r : Rl) : Prop := Tr.word r.name = true ∧ (good r.expr = true ∧ depth r.expr ≤ 8) ∧ ∀ a ∈ r.allow, WA a
def WT (t : Ty) : Prop := Tr.word t.name = true ∧ ∀ r ∈ t.rels, WR r
/-- A configuration that is well made, but for its expressions' sizes. -/
def WC (l : List Ty) : Prop := ∀ t ∈ l, WT t

theorem read_wd (a : ByteArray) (R : List K) : word ⟨(1, wd a) :: R, 0⟩ = (a, ⟨R, 0⟩) := by
  rw [word, if_pos (by rfl)]
  show (txt (wd a), _) = _
  rw [txt_wd]
  rfl
theorem read_need (k : Int) (x : List Nat) (R : List K) : need ⟨(k, x) :: R, 0⟩ k = ⟨R, 0⟩ := by
  rw [need, if_pos (by rfl)]
  rfl
theorem word_notnil {a : ByteArray} (h : Tr.word a = true) : Tr.nil a = false := by
  unfold Tr.word at h
  unfold Tr.nil
  cases hl : a.data.toList with
  | nil => rw [hl] at h; simp [Gly.nameB] at h
  | cons _ _ => rfl
theorem read_allow {a : Al} (h : WA a) (R : List K) (h35 : headK R ≠ 35) (h58 : headK R ≠ 58) : allow ⟨toksA a ++ R, 0⟩ = (a, ⟨R, 0⟩) := by
  obtain ⟨ty, rel, wild⟩ := a
  obtain ⟨-, h | ⟨h1, h2⟩⟩ := h
  · simp only at h
    subst h
    cases wild with
    | false =>
      have e : toksA ⟨ty, none0, false⟩ ++ R = (1, wd ty) :: R := rfl
      rw [e]
      unfold allow
      rw [read_wd]
      simp only
      rw [if_neg (by rw [next_head]; exact h35), if_neg (by rw [next_head]; exact h58)]
    | true =>
      have e : toksA ⟨ty, none0, true⟩ ++ R = (1, wd ty) :: (58, [58]) :: (42, [42]) :: R := rfl
      rw [e]
      unfold allow
      rw [read_wd]
      simp only
      rw [if_neg (by simp [next, headK]), if_pos (by rfl)]
      show (_, need ⟨(42, [42]) :: R, 0⟩ 42) = _
      rw [read_need]
  · simp only at h1 h2
    subst h1
    have e : toksA ⟨ty, rel, false⟩ ++ R = (1, wd ty) :: (35, [35]) :: (1, wd rel) :: R := by
      simp [toksA, word_notnil h2]
    rw [e]
    unfold allow
    rw [read_wd]
    simp only
    rw [if_pos (by rfl)]
    show ((⟨ty, (word ⟨(1, wd rel) :: R, 0⟩).1, false⟩ : Al), (word ⟨(1, wd rel) :: R, 0⟩).2) = _
    rw [read_wd]
theorem eachs_flat {α : Type} {one : St → α × St} (hf : Fine one) {k : Int} (hk0 : k ≠ 0) (x : List Nat) (bt : α → List K) (C : List K → Prop) (hC : ∀ r, C ((k, x) :: r)) :
    ∀ (l : List α), (∀ m ∈ l, ∀ R, C R → one ⟨bt m ++ R, 0⟩ = (m, ⟨R, 0⟩)) → ∀ R, C R → headK R ≠ k → eachs one k ⟨l.flatMap (fun a => (k, x) :: bt a) ++ R, 0⟩ = (l, ⟨R, 0⟩)
  | [], _, R, _, hR => eachs_off (by rw [next_head]; exact hR)
  | m :: l, H, R, hc, hR => by
    have hC2 : C (l.flatMap (fun a => (k, x) :: bt a) ++ R) := by
      cases l with
      | nil => exact hc
      | cons n r => exact hC _
    have h1 := H m (by simp) _ hC2
    have ih := eachs_flat hf hk0 x bt C hC l (fun n hn => H n (by simp [hn])) R hc hR
    have ht : tl ⟨(m :: l).flatMap (fun a => (k, x) :: bt a) ++ R, 0⟩ = ⟨bt m ++ (l.flatMap (fun a => (k, x) :: bt a) ++ R), 0⟩ := by
      simp [tl]
    rw [eachs_on hf hk0 (by rfl), ht, h1]
    simp only
    rw [ih]
theorem read_allows {l : List Al} (h : ∀ a ∈ l, WA a) (R : List K) (hR : headK R ≠ 91) : allows ⟨toksAl l ++ R, 0⟩ = (l, ⟨R, 0⟩) := by
  cases l with
  | nil =>
    unfold allows
    rw [toksAl, List.nil_append, if_neg (by rw [next_head]; exact hR)]
  | cons a r =>
    have e : toksAl (a :: r) ++ R = (91, [91]) :: (toksA a ++ (r.flatMap (fun a => (44, [44]) :: toksA a) ++ (93, [93]) :: R)) := by simp [toksAl]
    rw [e]
    unfold allows
    rw [if_pos (by rfl)]
    have hc : ∀ R', (∃ x T, R' = ((44 : Int), x) :: T ∨ R' = ((93 : Int), x) :: T) → headK R' ≠ 35 ∧ headK R' ≠ 58 := by
      rintro R' ⟨x, T, rfl | rfl⟩ <;> exact ⟨by simp [headK], by simp [headK]⟩
    have hC2 : ∃ x T, (r.flatMap (fun a => ((44, [44]) : K) :: toksA a) ++ (93, [93]) :: R) = ((44 : Int), x) :: T ∨ (r.flatMap (fun a => ((44, [44]) : K) :: toksA a) ++ (93, [93]) :: R) = ((93 : Int), x) :: T := by
      cases r with
      | nil => exact ⟨_, _, .inr rfl⟩
      | cons n r => exact ⟨_, _, .inl rfl⟩
    have h1 := read_allow (h a (by simp)) _ (hc _ hC2).1 (hc _ hC2).2
    have h2 := eachs_flat allow_fine (k := 44) (by decide) [44] toksA (fun R' => ∃ x T, R' = ((44 : Int), x) :: T ∨ R' = ((93 : Int), x) :: T) (fun r => ⟨_, _, .inl rfl⟩) r
      (fun m hm R' hR' => read_allow (h m (by simp [hm])) R' (hc _ hR').1 (hc _ hR').2) ((93, [93]) :: R) ⟨_, _, .inr rfl⟩ (by simp [headK])
    have h3 : list allow 44 ⟨toksA a ++ (r.flatMap (fun a => (44, [44]) :: toksA a) ++ (93, [93]) :: R), 0⟩ = (a :: r, ⟨(93, [93]) :: R, 0⟩) := by
      unfold list
      rw [h1]
      simp only
      rw [h2]
    show ((list allow 44 ⟨toksA a ++ (r.flatMap (fun a => (44, [44]) :: toksA a) ++ (93, [93]) :: R), 0⟩).1, need (list allow 44 ⟨toksA a ++ (r.flatMap (fun a => (44, [44]) :: toksA a) ++ (93, [93]) :: R), 0⟩).2 93) = _
    rw [h3]
    simp only
    rw [read_need]
theorem read_rel {r : Rl} (h : WR r) (R : List K) : rel ⟨toksR r ++ R, 0⟩ = (r, ⟨R, 0⟩) := by
  obtain ⟨name, al, ex⟩ := r
  obtain ⟨-, ⟨hg, hd⟩, ha⟩ := h
  have e : toksR ⟨name, al, ex⟩ ++ R = (1, wd name) :: (toksAl al ++ ((61, [61]) :: (toksN ex ++ ((59, [59]) :: R)))) := by simp [toksR]
  rw [e]
  unfold rel
  rw [read_wd]
  simp only
  rw [read_allows ha _ (by simp [headK])]
  simp only
  rw [read_need, show union = unionOf (brk 8) from rfl, (read_node _ ex 8 (Nat.le_refl _) hg (Nat.le_succ_of_le hd)).u ((59, [59]) :: R) (quiet_on (by decide) (by decide) (by decide) (by decide))]
  simp only
  rw [read_need]
theorem read_typ {t : Ty} (h : WT t) (R : List K) : typ ⟨toksT t ++ R, 0⟩ = (t, ⟨R, 0⟩) := by
  obtain ⟨name, rels⟩ := t
  obtain ⟨-, hr⟩ := h
  have e : toksT ⟨name, rels⟩ ++ R = (1, wd name) :: (123, [123]) :: (rels.flatMap (fun r => (3, [114, 101, 108]) :: toksR r) ++ (125, [125]) :: R) := by simp [toksT]
  rw [e]
  unfold typ
  rw [read_wd]
  simp only
  rw [read_need, eachs_flat rel_fine (k := 3) (by decide) [114, 101, 108] toksR (fun _ => True) (fun _ => trivial) rels (fun r hm R' _ => read_rel (hr r hm) R') ((125, [125]) :: R) trivial (by simp [headK])]
  simp only
  rw [read_need]
theorem read_config {l : List Ty} (h : WC l) : config ⟨toksC l, 0⟩ = (l, ⟨[], 0⟩) := by
  have := eachs_flat typ_fine (k := 2) (by decide) [116, 121, 112, 101] toksT (fun _ => True) (fun _ => trivial) l (fun t hm R' _ => read_typ (h t hm) R') [] trivial (by simp [headK])
  rw [List.append_nil] at this
  exact this

/-! ### the text -/
def prA (a : Al) : List UInt8 := a.ty.data.toList ++ ((if Tr.nil a.rel then [] else 35 :: a.rel.data.toList) ++ (if a.wild then [58, 42] else []))
def prAs : Bool → List Al → List UInt8
  | _, [] => []
  | f, a :: r => (if f then [91] else [44, 32]) ++ (prA a ++ prAs false r)
def prAl (l : List Al) : List UInt8 := prAs true l ++ (if l.isEmpty then [] else [93, 32])
def prR (r : Rl) : List UInt8 := [32, 32, 114, 101, 108, 32] ++ (r.name.data.toList ++ ([32] ++ (prAl r.allow ++ ([61, 32] ++ (prN r.expr ++ [59, 10])))))
def prT (t : Ty) : List UInt8 := [116, 121, 112, 101, 32] ++ (t.name.data.toList ++ ([32, 123, 10] ++ (t.rels.flatMap prR ++ [125, 10])))
def prC (l : List Ty) : List UInt8 := l.flatMap prT
theorem lx_two {S T : List Nat} {Ks Ls : List K} {C : List Nat → Prop} (h : Lx CT S Ks) (k : Lx C T Ls) : Lx C (S ++ T) (Ks ++ Ls) := Lx.seq h k fun _ _ => trivial
/-- A word, and what begins with no letter of a word. -/
theorem lx_ahead {S : List Nat} {Ks Ls : List K} {C : List Nat → Prop} {r : Nat} {T : List Nat} (h : Lx CW S Ks) (k : Lx C (r :: T) Ls) (hr : inWord r = false) : Lx C (S ++ (r :: T)) (Ks ++ Ls) := Lx.seq h k fun _ _ => hr
theorem lx_al {a : Al} (h : WA a) : Lx CW (rn (prA a)) (toksA a) := by
  obtain ⟨ty, rel, wild⟩ := a
  obtain ⟨hw, h | ⟨h1, h2⟩⟩ := h
  · simp only at h hw
    subst h
    cases wild with
    | false =>
      have e : rn (prA ⟨ty, none0, false⟩) = wd ty := by simp [prA, wd, rn, Tr.nil, none0]
      rw [e]
      exact lx_word hw
    | true =>
      have e : rn (prA ⟨ty, none0, true⟩) = wd ty ++ [58, 42] := by simp [prA, wd, rn, Tr.nil, none0]
      rw [e]
      exact (lx_ahead (lx_word hw) (lx_two (lx_sign (r := 58) (by decide) (by decide)) (lx_sign (r := 42) (by decide) (by decide))) (by decide)).weak fun _ _ => trivial
  · simp only at h1 h2 hw
    subst h1
    have e : rn (prA ⟨ty, rel, false⟩) = wd ty ++ (35 :: wd rel) := by simp [prA, wd, rn, word_notnil h2]
    have e2 : toksA ⟨ty, rel, false⟩ = [(1, wd ty)] ++ ([(35, [35])] ++ [(1, wd rel)]) := by simp [toksA, word_notnil h2]
    rw [e, e2]
    exact lx_ahead (lx_word hw) (lx_two (lx_sign (r := 35) (by decide) (by decide)) (lx_word h2)) (by decide)
theorem lx_comma : Lx CT [44, 32] [(44, [44])] := Lx.seq (Ls := []) (lx_sign (r := 44) (by decide) (by decide)) (lx_blank (r := 32) (by decide)) fun _ _ => trivial
theorem lx_als : ∀ (r : List Al), (∀ a ∈ r, WA a) → Lx CW (rn (prAs false r)) (r.flatMap fun a => (44, [44]) :: toksA a)
  | [], _ => Lx.nil _
  | a :: r, h => by
    have h1 := lx_al (h a (by simp))
    have h2 := lx_als r fun x hx => h x (by simp [hx])
    have e : rn (prAs false (a :: r)) = [44, 32] ++ (rn (prA a) ++ rn (prAs false r)) := by simp [prAs, rn]
    have e2 : ((a :: r).flatMap fun a => ((44, [44]) : K) :: toksA a) = [(44, [44])] ++ (toksA a ++ r.flatMap fun a => (44, [44]) :: toksA a) := by simp
    rw [e, e2]
    refine lx_two lx_comma (Lx.seq h1 h2 fun R hR => ?_)
    cases r with
    | nil => exact hR
    | cons b r => exact (by decide : inWord 44 = false)
theorem lx_allow {l : List Al} (h : ∀ a ∈ l, WA a) : Lx CT (rn (prAl l)) (toksAl l) := by
  cases l with
  | nil => exact Lx.nil _
  | cons a r =>
    have h1 := lx_al (h a (by simp))
    have h2 := lx_als r fun x hx => h x (by simp [hx])
    have h3 : Lx CT [93, 32] [(93, [93])] := Lx.seq (Ls := []) (lx_sign (r := 93) (by decide) (by decide)) (lx_blank (r := 32) (by decide)) fun _ _ => trivial
    have e : rn (prAl (a :: r)) = [91] ++ (rn (prA a) ++ (rn (prAs false r) ++ [93, 32])) := by simp [prAl, prAs, rn]
    have e2 : toksAl (a :: r) = [(91, [91])] ++ (toksA a ++ ((r.flatMap fun a => (44, [44]) :: toksA a) ++ [(93, [93])])) := by simp [toksAl]
    rw [e, e2]
    refine lx_two (lx_sign (r := 91) (by decide) (by decide)) (Lx.seq h1 (Lx.seq h2 h3 fun R _ => (by decide : inWord 93 = false)) fun R _ => ?_)
    cases r with
    | nil => exact (by decide : inWord 93 = false)
    | cons b r => exact (by decide : inWord 44 = false)
theorem lx_kw {r : Nat} {t : List Nat} {k : Int} (hr : letter r = true) (ht : ∀ x ∈ t, inWord x = true) (hl : t.length + 1 ≤ 16) (hk : kindOf (r :: t) = k) : Lx CT ((r :: t) ++ [32]) [(k, r :: t)] := by
  have h1 := lx_letters hr ht hl
  rw [hk] at h1
  exact Lx.seq (Ls := []) h1 (lx_blank (r := 32) (by decide)) fun R _ => (by decide : inWord 32 = false)
theorem lx_rel {r : Rl} (h : WR r) : Lx CT (rn (prR r)) ((3, [114, 101, 108]) :: toksR r) := by
  obtain ⟨name, al, ex⟩ := r
  obtain ⟨hn, ⟨hg, hd⟩, ha⟩ := h
  have h1 : Lx CT [32, 32] [] := Lx.seq (Ks := []) (Ls := []) (lx_blank (r := 32) (by decide)) (lx_blank (r := 32) (by decide)) fun _ _ => trivial
  have h2 : Lx CT [114, 101, 108, 32] [(3, [114, 101, 108])] := lx_kw (r := 114) (t := [101, 108]) (by decide) (by decide) (by decide) rfl
  have h3 : Lx CT (wd name ++ [32]) [(1, wd name)] := Lx.seq (Ls := []) (lx_word hn) (lx_blank (r := 32) (by decide)) fun R _ => (by decide : inWord 32 = false)
  have h4 : Lx CT [61, 32] [(61, [61])] := Lx.seq (Ls := []) (lx_sign (r := 61) (by decide) (by decide)) (lx_blank (r := 32) (by decide)) fun _ _ => trivial
  have h5 : Lx CT [59, 10] [(59, [59])] := Lx.seq (Ls := []) (lx_sign (r := 59) (by decide) (by decide)) (lx_blank (r := 10) (by decide)) fun _ _ => trivial
  have h6 := Lx.seq (lx_node _ ex (Nat.le_refl _) hg) h5 fun R _ => (by decide : inWord 59 = false)
  have h7 := lx_two h1 (lx_two h2 (lx_two h3 (lx_two (lx_allow ha) (lx_two h4 h6))))
  have e : rn (prR ⟨name, al, ex⟩) = [32, 32] ++ ([114, 101, 108, 32] ++ ((wd name ++ [32]) ++ (rn (prAl al) ++ ([61, 32] ++ (rn (prN ex) ++ [59, 10]))))) := by simp [prR, rn, wd]
  rw [e]
  exact h7
theorem lx_rels : ∀ (l : List Rl), (∀ r ∈ l, WR r) → Lx CT (rn (l.flatMap prR)) (l.flatMap fun r => (3, [114, 101, 108]) :: toksR r)
  | [], _ => Lx.nil _
  | r :: l, h => by
    rw [List.flatMap_cons, List.flatMap_cons, rn_app]
    exact lx_two (lx_rel (h r (by simp))) (lx_rels l fun x hx => h x (by simp [hx]))
theorem lx_typ {t : Ty} (h : WT t) : Lx CT (rn (prT t)) ((2, [116, 121, 112, 101]) :: toksT t) := by
  obtain ⟨name, rels⟩ := t
  obtain ⟨hn, hr⟩ := h
  have h2 : Lx CT [116, 121, 112, 101, 32] [(2, [116, 121, 112, 101])] := lx_kw (r := 116) (t := [121, 112, 101]) (by decide) (by decide) (by decide) rfl
  have h3 : Lx CT (wd name ++ [32]) [(1, wd name)] := Lx.seq (Ls := []) (lx_word hn) (lx_blank (r := 32) (by decide)) fun R _ => (by decide : inWord 32 = false)
  have h4 : Lx CT [123, 10] [(123, [123])] := Lx.seq (Ls := []) (lx_sign (r := 123) (by decide) (by decide)) (lx_blank (r := 10) (by decide)) fun _ _ => trivial
  have h5 : Lx CT [125, 10] [(125, [125])] := Lx.seq (Ls := []) (lx_sign (r := 125) (by decide) (by decide)) (lx_blank (r := 10) (by decide)) fun _ _ => trivial
  have h7 := lx_two h2 (lx_two h3 (lx_two h4 (lx_two (lx_rels rels hr) h5)))
  have e : rn (prT ⟨name, rels⟩) = [116, 121, 112, 101, 32] ++ ((wd name ++ [32]) ++ ([123, 10] ++ (rn (rels.flatMap prR) ++ [125, 10]))) := by simp [prT, rn, wd]
  rw [e]
  exact h7
theorem lx_config : ∀ (l : List Ty), WC l → Lx CT (rn (prC l)) (toksC l)
  | [], _ => Lx.nil _
  | t :: l, h => by
    rw [prC, toksC, List.flatMap_cons, List.flatMap_cons, rn_app]
    exact lx_two (lx_typ (h t (by simp))) (lx_config l fun x hx => h x (by simp [hx]))

/-! ### bytes -/
/-- All bytes are ASCII. -/
def Low (l : List UInt8) : Prop := ∀ b ∈ l, b.toNat < 128
theorem Low.app {a b : List UInt8} (ha : Low a) (hb : Low b) : Low (a ++ b) := fun x hx => by
  rcases List.mem_append.1 hx with hx | hx
  · exact ha x hx
  · exact hb x hx
theorem Low.flat {α : Type} {f : α → List UInt8} : ∀ {l : List α}, (∀ a ∈ l, Low (f a)) → Low (l.flatMap f)
  | [], _ => fun x hx => by simp at hx
  | a :: l, h => by
    rw [List.flatMap_cons]
    exact (h a (by simp)).app (Low.flat fun x hx => h x (by simp [hx]))
theorem low_a {a : Al} (h : WA a) : Low (prA a) := by
  obtain ⟨ty, rel, wild⟩ := a
  obtain ⟨hw, h2⟩ := h
  unfold prA
  refine Low.app (word_low hw) (Low.app ?_ ?_)
  · split
    · intro b hb; simp at hb
    · rename_i hn
      rcases h2 with h2 | ⟨-, h2⟩
      · simp only at h2 hn
        subst h2
        exact absurd rfl hn
      · intro b hb
        rcases List.mem_cons.1 hb with rfl | hb
        · decide
        · exact word_low h2 b hb
  · split
    · unfold Low; decide
    · intro b hb; simp at hb
theorem low_as : ∀ (l : List Al) (f : Bool), (∀ a ∈ l, WA a) → Low (prAs f l)
  | [], _, _ => fun b hb => by rw [prAs] at hb; simp at hb
  | a :: r, f, h => by
    rw [prAs]
    refine Low.app ?_ (Low.app (low_a (h a (by simp))) (low_as r false fun x hx => h x (by simp [hx])))
    split <;> (unfold Low; decide)
theorem low_al {l : List Al} (h : ∀ a ∈ l, WA a) : Low (prAl l) := by
  unfold prAl
  refine Low.app (low_as l true h) ?_
  split
  · intro b hb; simp at hb
  · unfold Low; decide
theorem low_rel {r : Rl} (h : WR r) : Low (prR r) := by
  obtain ⟨hn, ⟨hg, -⟩, ha⟩ := h
  unfold prR
  exact Low.app (by unfold Low; decide) (Low.app (word_low hn) (Low.app (by unfold Low; decide) (Low.app (low_al ha) (Low.app (by unfold Low; decide) (Low.app (node_low _ r.expr (Nat.le_refl _) hg).1 (by unfold Low; decide))))))
theorem low_typ {t : Ty} (h : WT t) : Low (prT t) := by
  obtain ⟨hn, hr⟩ := h
  unfold prT
  exact Low.app (by unfold Low; decide) (Low.app (word_low hn) (Low.app (by unfold Low; decide) (Low.app (Low.flat fun r hx => low_rel (hr r hx)) (by unfold Low; decide))))
theorem low_config {l : List Ty} (h : WC l) : Low (prC l) := Low.flat fun t ht => low_typ (h t ht)
/-- A configuration that is well made, its text, the text's runes. -/
theorem config_runes {l : List Ty} {s : ByteArray} (h : WC l) (ht : s.data.toList = prC l) : Gly.runes s.data.toList = some (rn (prC l)) := by
  rw [ht]
  exact runes_ascii (low_config h)
/-- It is parsed as it was. -/
theorem print_parse {l : List Ty} {s : ByteArray} (h : WC l) (ht : s.data.toList = prC l) (hlen : (prC l).length ≤ 3000) : (parseA s).2.2 = 0 ∧ (parseA s).1 = l := by
  obtain ⟨k1, k2⟩ := Lx.whole ((lx_config l h).weak fun _ _ => trivial) (1, 1)
  unfold parseA
  rw [config_runes h ht, Sg.ans_ok (by rw [List.length_map]; omega) k2, answer, if_pos rfl]
  simp only
  rw [k1, read_config h]
  have hf : (fin (⟨[], 0⟩ : St)).err = 0 := rfl
  rw [done, if_pos hf]
  exact ⟨rfl, rfl⟩
/-- What is parsed is well made, if its expressions aren't too deep. -/
theorem parsed_well {l : List Ty} (h : ∀ t ∈ l, TG t) (hd : ∀ t ∈ l, ∀ r ∈ t.rels, depth r.expr ≤ 8) : WC l := fun t ht =>
  ⟨(h t ht).1, fun r hr => ⟨((h t ht).2 r hr).1, ⟨((h t ht).2 r hr).2.1, hd t ht r hr⟩, ((h t ht).2 r hr).2.2⟩⟩
end Gr
end Go.Proofs.YtopncohhagebbaaDoor

namespace Go.Proofs.YtopncohhagebbaaDoor
open Go.RowKit
namespace Gr
open Tr (Nd none0 good goods size sizes depth)

theorem prL_append (k : Int) : ∀ (l m : List Nd) (f : Bool), prL k f (l ++ m) = prL k f l ++ prL k (f && l.isEmpty) m
  | [], m, f => by simp [prL]
  | n :: l, m, f => by
    rw [List.cons_append, prL, prL, prL_append k l m false]
    simp
/-- One part more. -/
theorem prL_take {k : Int} {l : List Nd} {i : Nat} (h : i < l.length) : prL k true (l.take (i + 1)) = prL k true (l.take i) ++ ((if i = 0 then [] else sepB k) ++ inTx (needsB k l[i].kind) (prN l[i])) := by
  rw [List.take_succ_eq_append_getElem h, prL_append, Bool.true_and, prL]
  have e : (l.take i).isEmpty = decide (i = 0) := by
    cases i with
    | zero => simp
    | succ i =>
      cases l with
      | nil => simp at h
      | cons a r => simp
  rw [e]
  by_cases hi : i = 0
  · simp [hi, prL]
  · simp [hi, prL]
theorem prAs_append : ∀ (l m : List Al) (f : Bool), prAs f (l ++ m) = prAs f l ++ prAs (f && l.isEmpty) m
  | [], m, f => by simp [prAs]
  | n :: l, m, f => by
    rw [List.cons_append, prAs, prAs, prAs_append l m false]
    simp
theorem prAs_take {l : List Al} {i : Nat} (h : i < l.length) : prAs true (l.take (i + 1)) = prAs true (l.take i) ++ ((if i = 0 then [91] else [44, 32]) ++ prA l[i]) := by
  rw [List.take_succ_eq_append_getElem h, prAs_append, Bool.true_and, prAs]
  have e : (l.take i).isEmpty = decide (i = 0) := by
    cases i with
    | zero => simp
    | succ i =>
      cases l with
      | nil => simp at h
      | cons a r => simp
  rw [e]
  by_cases hi : i = 0
  · simp [hi, prAs]
  · simp [hi, prAs]
theorem flat_take {α : Type} (f : α → List UInt8) {l : List α} {i : Nat} (h : i < l.length) : (l.take (i + 1)).flatMap f = (l.take i).flatMap f ++ f l[i] := by
  rw [List.take_succ_eq_append_getElem h, List.flatMap_append]
  simp
theorem flat_len {α : Type} {f : α → List UInt8} {c : Nat} : ∀ {l : List α}, (∀ a ∈ l, (f a).length ≤ c) → (l.flatMap f).length ≤ c * l.length
  | [], _ => by simp
  | a :: l, h => by
    rw [List.flatMap_cons, List.length_append, List.length_cons, Nat.mul_add, Nat.mul_one]
    have := h a (by simp)
    have := flat_len (l := l) fun x hx => h x (by simp [hx])
    omega
theorem prA_len {a : Al} (h : WA a) : (prA a).length ≤ 35 := by
  obtain ⟨ty, rel, wild⟩ := a
  obtain ⟨hw, h2⟩ := h
  have h1 := word_len hw
  unfold prA
  rcases h2 with h2 | ⟨h3, h2⟩
  · simp only at h2
    subst h2
    cases wild <;> simp [Tr.nil, none0] at * <;> omega
  · simp only at h3
    subst h3
    have h4 := word_len h2
    simp [word_notnil h2] at *
    omega
theorem prAs_len : ∀ (l : List Al) (f : Bool), (∀ a ∈ l, WA a) → (prAs f l).length ≤ 37 * l.length
  | [], _, _ => by simp [prAs]
  | a :: r, f, h => by
    rw [prAs, List.length_append, List.length_append, List.length_cons]
    have h1 := prA_len (h a (by simp))
    have h2 := prAs_len r false fun x hx => h x (by simp [hx])
    have h3 : (if f = true then ([91] : List UInt8) else [44, 32]).length ≤ 2 := by cases f <;> decide
    omega
/-- Bytes as a text. -/
def bs (l : List UInt8) : ByteArray := ⟨l.toArray⟩
theorem bs_list (l : List UInt8) : (bs l).data.toList = l := rfl
theorem bs_size (l : List UInt8) : (bs l).size = l.length := rfl
theorem bs_app (a b : List UInt8) : bs a ++ bs b = bs (a ++ b) := by
  have h : (bs a ++ bs b).data = (bs (a ++ b)).data := by
    rw [ByteArray.data_append]
    simp [bs]
  cases hx : bs a ++ bs b
  cases hy : bs (a ++ b)
  rw [hx, hy] at h
  simp only at h
  rw [h]
theorem bs_of (s : ByteArray) : bs s.data.toList = s := by
  cases s
  rfl
end Gr
end Go.Proofs.YtopncohhagebbaaDoor
