/-
  Plain mathematics under SigilPlaces: a list's first token, what stands ahead of it, and where; places rise.
-/
import Derived.Test.YtjddojpmgdnicaaSgN
namespace Go.Proofs.Ytjddojpmgdnicaa.Sg
open Go

/-- A piece hangs on itself alone. -/
theorem piece_cut {q : List Nat} {n : Nat} (h0 : (piece q).1 ≠ 0) (hn : (piece q).2 ≤ n) : piece (q.take n) = piece q := by
  have hp := piece_pos h0
  cases q with
  | nil => rw [List.take_nil]
  | cons r t =>
    obtain ⟨n, rfl⟩ : ∃ j, n = j + 1 := ⟨n - 1, by omega⟩
    have hhd : (t.take n).headD 0 = t.headD 0 ∨ (n = 0 ∧ (t.take n).headD 0 = 0) := by
      cases n with
      | zero => exact .inr ⟨rfl, rfl⟩
      | succ n => cases t <;> exact .inl rfl
    rw [List.take_succ_cons]
    rcases piece_cases r t with ⟨h, e⟩ | ⟨hb, h, h2, e⟩ | ⟨hb, hl, h47, h45, h16, e⟩ | ⟨_, _, _, _, _, e⟩ | ⟨hb, hl, h, h2, e⟩ | ⟨hb, hl, h, h2, e⟩ | ⟨_, _, _, _, e⟩
    · rw [e] at hn
      have hr := run_cut (r :: t) (n + 1) hn
      rw [List.take_succ_cons] at hr
      rw [e, piece_blank h, hr]
    · rw [e] at hn
      have h2n : 2 ≤ run inLine (r :: t) := by
        obtain ⟨u, rfl⟩ := headD_ne h2 (by omega)
        subst h
        rw [run_cons _ (by decide), run_cons _ (by decide)]; omega
      have hn1 : n ≠ 0 := by simp only at hn; omega
      have hr := run_cut (r :: t) (n + 1) hn
      rw [List.take_succ_cons] at hr
      have hh : (t.take n).headD 0 = 47 := by
        rcases hhd with h | ⟨h, _⟩
        · rw [h, h2]
        · exact absurd h hn1
      rw [e, piece, hb, if_neg (by simp), if_pos ⟨h, hh⟩, hr]
    · rw [e] at hn
      have hr := run_cut (r :: t) (n + 1) hn
      rw [List.take_succ_cons] at hr
      have htk : (r :: t.take n).take (run inWord (r :: t)) = (r :: t).take (run inWord (r :: t)) := by
        have := List.take_take (i := run inWord (r :: t)) (j := n + 1) (l := r :: t)
        rw [List.take_succ_cons, Nat.min_eq_left hn] at this
        exact this
      rw [e, piece, hb, if_neg (by simp), if_neg (fun h => h47 h.1), if_pos hl, word, hr, if_neg (by omega), htk]
    · rw [e] at h0; exact absurd rfl h0
    · rw [e] at hn
      have hn1 : n ≠ 0 := by simp only at hn; omega
      have hh : (t.take n).headD 0 = 62 := by
        rcases hhd with h | ⟨h, _⟩
        · rw [h, h2]
        · exact absurd h hn1
      rw [e, piece, hb, if_neg (by simp), if_neg (fun hh => by have := hh.1; omega), hl, if_neg (by simp), if_pos ⟨h, hh⟩]
    · have hs := sign_low h
      have hn2 : ¬ (r = 45 ∧ (t.take n).headD 0 = 62) := by
        rintro ⟨h4, h6⟩
        rcases hhd with h | ⟨_, h⟩
        · exact h2 ⟨h4, by rw [← h, h6]⟩
        · rw [h] at h6; cases h6
      rw [e, piece, hb, if_neg (by simp), if_neg (fun hh => hs.2.2.2.1 hh.1), hl, if_neg (by simp), if_neg hn2, h, if_pos rfl]
    · rw [e] at h0; exact absurd rfl h0

theorem lex_first : ∀ (k : Nat) (q : List Nat) (p : Nat × Nat) (t : Tok) (T : List Tok) (e : Nat × Nat), q.length ≤ k → lex p q = (t :: T, e, true) →
    ∃ g, g + t.text.length ≤ q.length ∧ (lex p (q.take g)).1 = [] ∧ (lex p (q.take g)).2.2 = true ∧ t.at' = behinds p (q.take g) ∧ t.text = (q.drop g).take t.text.length ∧
      lex (behinds p (q.take (g + t.text.length))) (q.drop (g + t.text.length)) = (T, e, true)
  | k, q, p, t, T, e, hk, h => by
    have hne : q ≠ [] := by rintro rfl; rw [lex_nil] at h; simp at h
    have h0 : (piece q).1 ≠ 0 := fun h0 => by rw [lex_bad hne h0] at h; simp at h
    have h1 := piece_pos h0
    have hle := piece_le q
    have hpos := List.length_pos_iff.2 hne
    obtain ⟨k, rfl⟩ : ∃ j, k = j + 1 := ⟨k - 1, by omega⟩
    by_cases hg : (piece q).1 = -1
    · rw [lex_gap hne hg] at h
      obtain ⟨g, a1, a2, a3, a4, a5, a6⟩ := lex_first k _ _ t T e (by rw [List.length_drop]; omega) h
      rw [List.length_drop] at a1
      have hpc : piece (q.take ((piece q).2 + g)) = piece q := piece_cut h0 (by omega)
      have hne2 : q.take ((piece q).2 + g) ≠ [] := by
        intro h
        have := congrArg List.length h
        rw [List.length_take] at this
        simp only [List.length_nil] at this
        omega
      have htk : (q.take ((piece q).2 + g)).take (piece q).2 = q.take (piece q).2 := by rw [List.take_take, Nat.min_eq_left (by omega)]
      have hdr : (q.take ((piece q).2 + g)).drop (piece q).2 = (q.drop (piece q).2).take g := by rw [List.drop_take, Nat.add_sub_cancel_left]
      have hlx : lex p (q.take ((piece q).2 + g)) = lex (behinds p (q.take (piece q).2)) ((q.drop (piece q).2).take g) := by
        rw [lex_gap hne2 (by rw [hpc]; exact hg), hpc, htk, hdr]
      refine ⟨(piece q).2 + g, by omega, by rw [hlx]; exact a2, by rw [hlx]; exact a3, ?_, ?_, ?_⟩
      · rw [a4, behinds_add]
      · rw [← List.drop_drop]; exact a5
      · rw [behinds_add, List.drop_drop] at a6
        rw [Nat.add_assoc]; exact a6
    · rw [lex_tok hne h0 hg] at h
      have ht := (List.cons.inj (Prod.mk.inj h).1).1
      have hT := (List.cons.inj (Prod.mk.inj h).1).2
      have he := (Prod.mk.inj h).2
      subst ht
      have hl : (q.take (piece q).2).length = (piece q).2 := by rw [List.length_take]; omega
      refine ⟨0, by simp only [hl]; omega, by rw [List.take_zero, lex_nil], by rw [List.take_zero, lex_nil], by rw [List.take_zero]; rfl, by simp only [hl, List.drop_zero], ?_⟩
      simp only [hl, Nat.zero_add]
      rw [← hT, ← he]

/-! ### places rise -/
def Rises (p p' : Nat × Nat) : Prop := p.1 < p'.1 ∨ (p.1 = p'.1 ∧ p.2 < p'.2)
theorem rises_behind (p : Nat × Nat) (r : Nat) : Rises p (behind p r) := by
  unfold behind Rises; split <;> simp
theorem Rises.trans {a b c : Nat × Nat} (h : Rises a b) (k : Rises b c) : Rises a c := by
  unfold Rises at *; omega
theorem Rises.ne {a b : Nat × Nat} (h : Rises a b) : a ≠ b := by
  rintro rfl; unfold Rises at h; omega
theorem rises_behinds : ∀ (q : List Nat) (p : Nat × Nat), q ≠ [] → Rises p (behinds p q)
  | [], _, h => absurd rfl h
  | [r], p, _ => rises_behind p r
  | r :: x :: t, p, _ => by
    rw [behinds_cons]
    exact (rises_behind p r).trans (rises_behinds (x :: t) _ (by simp))
theorem places_ne {q : List Nat} {p : Nat × Nat} {i j : Nat} (h : i < j) (hj : j ≤ q.length) : behinds p (q.take i) ≠ behinds p (q.take j) := by
  have e : q.take j = q.take i ++ (q.drop i).take (j - i) := by
    have := List.take_add (l := q) (i := i) (j := j - i)
    rwa [show i + (j - i) = j by omega] at this
  rw [e, behinds_append]
  refine (rises_behinds _ _ fun h0 => ?_).ne
  have := congrArg List.length h0
  rw [List.length_take, List.length_drop] at this
  simp at this; omega

/-! ### bytes -/
theorem pre_add : ∀ (a b : Nat) (l : List UInt8), Gly.pre (a + b) l = Gly.pre a l + Gly.pre b (l.drop (Gly.pre a l))
  | 0, b, l => by simp [Gly.pre]
  | a + 1, b, l => by
    by_cases h : l = []
    · subst h; simp [Gly.pre_nil]
    · rw [show a + 1 + b = (a + b) + 1 by omega, Gly.pre_step h, Gly.pre_step h, pre_add a b, List.drop_drop]
      omega
theorem pre_mono {a b : Nat} (l : List UInt8) (h : a ≤ b) : Gly.pre a l ≤ Gly.pre b l := by
  rw [show b = a + (b - a) by omega, pre_add]; omega
/-- A byte is a rune's first, or no byte of a token. -/
theorem bound : ∀ (k : Nat) (l : List UInt8) (q : List Nat) (i : Nat), l.length ≤ k → Gly.runes l = some q → i < l.length → (∃ j, j < q.length ∧ i = Gly.pre j l) ∨ 128 ≤ Gly.byte l i
  | k, l, q, i, hk, hq, hi => by
    have hne : l ≠ [] := by rintro rfl; simp at hi
    have hb := Gly.runes_good hq hne
    have hw := Gly.dec_width l hne
    have hl := Gly.drop_lt hne
    obtain ⟨k, rfl⟩ : ∃ j, k = j + 1 := ⟨k - 1, by omega⟩
    rw [Gly.runes_step hne hb] at hq
    cases hu : Gly.runes (l.drop (Gly.dec l).2) with
    | none => rw [hu] at hq; cases hq
    | some u =>
      rw [hu] at hq; cases hq
      by_cases h0 : i = 0
      · exact .inl ⟨0, by simp, by simp [Gly.pre, h0]⟩
      · by_cases hiw : i < (Gly.dec l).2
        · right
          rcases Gly.dec_cases l hne with ⟨_, e⟩ | ⟨_, _, _, c1, _, e⟩ | ⟨_, _, _, c1, c2, _, _, e⟩ | ⟨_, _, _, c1, c2, c3, _, _, e⟩ | ⟨_, e⟩
          · rw [e] at hiw; simp only at hiw; omega
          · rw [e] at hiw; simp only at hiw
            obtain rfl : i = 1 := by omega
            omega
          · rw [e] at hiw; simp only at hiw
            obtain rfl | rfl : i = 1 ∨ i = 2 := by omega
            · omega
            · omega
          · rw [e] at hiw; simp only at hiw
            obtain rfl | rfl | rfl : i = 1 ∨ i = 2 ∨ i = 3 := by omega
            · omega
            · omega
            · omega
          · rw [e] at hiw; simp only at hiw; omega
        · rcases bound k _ u (i - (Gly.dec l).2) (by omega) hu (by rw [List.length_drop]; omega) with ⟨j, hj, hp⟩ | h
          · exact .inl ⟨j + 1, by rw [List.length_cons]; omega, by rw [Gly.pre_step hne, ← hp]; omega⟩
          · right
            rw [Gly.byte, Gly.getD_drop, show (Gly.dec l).2 + (i - (Gly.dec l).2) = i by omega] at h
            exact h
end Go.Proofs.Ytjddojpmgdnicaa.Sg
