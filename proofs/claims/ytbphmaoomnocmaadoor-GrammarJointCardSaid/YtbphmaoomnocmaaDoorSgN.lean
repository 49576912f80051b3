/-
  Plain mathematics under the statements of layer 6 (sigil): tokens don't hang on the place; a text behind a line's end; tokens' texts with blanks behind them.
-/
import Derived.Test.YtbphmaoomnocmaaDoorSgPure
namespace Go.Proofs.YtbphmaoomnocmaaDoor.Sg
open Go

/-- Kinds and texts. -/
def kt (l : List Tok) : List (Int × List Nat) := l.map fun t => (t.kind, t.text)
theorem kt_append (a b : List Tok) : kt (a ++ b) = kt a ++ kt b := List.map_append
theorem kt_cons (t : Tok) (l : List Tok) : kt (t :: l) = (t.kind, t.text) :: kt l := rfl
theorem kt_len (l : List Tok) : (kt l).length = l.length := List.length_map ..
theorem kt_nil {l : List Tok} (h : kt l = []) : l = [] := by
  have := congrArg List.length h
  rw [kt_len] at this
  exact List.eq_nil_of_length_eq_zero this

/-- What is lexed hangs on the place in the tokens' places alone. -/
theorem lex_place : ∀ (k : Nat) (q : List Nat) (p p' : Nat × Nat), q.length ≤ k → kt (lex p q).1 = kt (lex p' q).1 ∧ (lex p q).2.2 = (lex p' q).2.2
  | k, q, p, p', hk => by
    by_cases h : q = []
    · subst h; rw [lex_nil, lex_nil]; exact ⟨rfl, rfl⟩
    · by_cases h0 : (piece q).1 = 0
      · rw [lex_bad h h0, lex_bad h h0]; exact ⟨rfl, rfl⟩
      · have h1 := piece_pos h0
        have hl : (q.drop (piece q).2).length < q.length := by
          rw [List.length_drop]
          have := List.length_pos_iff.2 h
          omega
        obtain ⟨k, rfl⟩ : ∃ j, k = j + 1 := ⟨k - 1, by omega⟩
        have ih := lex_place k (q.drop (piece q).2) (behinds p (q.take (piece q).2)) (behinds p' (q.take (piece q).2)) (by omega)
        by_cases hg : (piece q).1 = -1
        · rw [lex_gap h hg, lex_gap h hg]; exact ih
        · rw [lex_tok h h0 hg, lex_tok h h0 hg, kt_cons, kt_cons, ih.1]
          exact ⟨rfl, ih.2⟩
/-- The place behind all. -/
theorem lex_end : ∀ (k : Nat) (q : List Nat) (p : Nat × Nat), q.length ≤ k → (lex p q).2.2 = true → (lex p q).2.1 = behinds p q
  | k, q, p, hk, hok => by
    by_cases h : q = []
    · subst h; rw [lex_nil]; rfl
    · by_cases h0 : (piece q).1 = 0
      · rw [lex_bad h h0] at hok; cases hok
      · have h1 := piece_pos h0
        have hl : (q.drop (piece q).2).length < q.length := by
          rw [List.length_drop]
          have := List.length_pos_iff.2 h
          omega
        obtain ⟨k, rfl⟩ : ∃ j, k = j + 1 := ⟨k - 1, by omega⟩
        have hj : behinds (behinds p (q.take (piece q).2)) (q.drop (piece q).2) = behinds p q := by
          rw [← behinds_append, List.take_append_drop]
        by_cases hg : (piece q).1 = -1
        · rw [lex_gap h hg] at hok ⊢
          rw [lex_end k _ _ (by omega) hok, hj]
        · rw [lex_tok h h0 hg] at hok ⊢
          exact (lex_end k _ _ (by omega) hok).trans hj

/-! ### a text behind a line's end -/
theorem piece_ext {r : Nat} {t : List Nat} (b : List Nat) (hb : blank r = false) (h10 : 10 ∈ t) : piece (r :: t ++ b) = piece (r :: t) := by
  have hh : (t ++ b).headD 0 = t.headD 0 := by
    cases t with
    | nil => simp at h10
    | cons x u => rfl
  have hl : run inLine (r :: t ++ b) = run inLine (r :: t) := run_append b ⟨10, by simp [h10], by decide⟩
  have hw : run inWord (r :: t ++ b) = run inWord (r :: t) := run_append b ⟨10, by simp [h10], by decide⟩
  have hwo : word (r :: t ++ b) = word (r :: t) := by
    rw [word, word, hw, List.take_append_of_le_length (run_le inWord (r :: t))]
  rw [List.cons_append] at hl hwo ⊢
  simp only [piece, hb, Bool.false_eq_true, if_false, hh, hl, hwo]
theorem piece_no10 {r : Nat} {t : List Nat} (hb : blank r = false) : ∀ x ∈ (r :: t).take (piece (r :: t)).2, x ≠ 10 := by
  rcases piece_cases r t with ⟨h, _⟩ | ⟨_, _, _, e⟩ | ⟨_, _, _, _, _, e⟩ | ⟨_, _, _, _, _, e⟩ | ⟨_, _, h, h2, e⟩ | ⟨_, _, h, _, e⟩ | ⟨_, _, _, _, e⟩
  · rw [hb] at h; cases h
  · rw [e]
    intro x hx
    have := run_all x hx
    simpa [inLine] using this
  · rw [e]
    intro x hx
    have := inWord_low (run_all x hx)
    have h2 := run_all x hx
    rintro rfl
    exact absurd h2 (by decide)
  · rw [e]; simp
  · obtain ⟨u, rfl⟩ := headD_ne h2 (by omega)
    subst h; rw [e]; simp
  · rw [e]
    have := sign_low h
    have hr : r ≠ 10 := by rintro rfl; exact absurd h (by decide)
    simp [hr]
  · rw [e]; simp

theorem lex_join : ∀ (k : Nat) (q b : List Nat) (p : Nat × Nat), q.length ≤ k → q.getLast? = some 10 → (lex p q).2.2 = true →
    lex p (q ++ b) = ((lex p q).1 ++ (lex (lex p q).2.1 b).1, (lex (lex p q).2.1 b).2)
  | k, q, b, p, hk, hlast, hok => by
    cases q with
    | nil => simp at hlast
    | cons r t =>
      obtain ⟨k, rfl⟩ : ∃ j, k = j + 1 := ⟨k - 1, by rw [List.length_cons] at hk; omega⟩
      rw [List.length_cons] at hk
      cases hb : blank r with
      | true =>
        rw [List.cons_append, lex_blank hb]
        rw [lex_blank hb] at hok ⊢
        by_cases ht : t = []
        · subst ht; rw [lex_nil]; simp
        · have hl2 : t.getLast? = some 10 := by
            cases t with
            | nil => exact absurd rfl ht
            | cons x u => rwa [List.getLast?_cons_cons] at hlast
          exact lex_join k t b _ (by omega) hl2 hok
      | false =>
        have hr10 : r ≠ 10 := by rintro rfl; exact absurd hb (by decide)
        have h10 : 10 ∈ t := by
          have := List.mem_of_getLast? hlast
          rcases List.mem_cons.1 this with h | h
          · exact absurd h.symm hr10
          · exact h
        have hne : r :: t ≠ [] := by simp
        have hne2 : r :: t ++ b ≠ [] := by simp
        have hp := piece_ext b hb h10
        have h0 : (piece (r :: t)).1 ≠ 0 := fun h0 => by rw [lex_bad hne h0] at hok; cases hok
        have h1 := piece_pos h0
        have hle := piece_le (r :: t)
        have hlt : (piece (r :: t)).2 < (r :: t).length := by
          apply Classical.byContradiction
          intro h
          have he : (r :: t).take (piece (r :: t)).2 = r :: t := List.take_of_length_le (by omega)
          have := piece_no10 hb 10 (by rw [he]; simp [h10])
          exact this rfl
        have hl2 : ((r :: t).drop (piece (r :: t)).2).getLast? = some 10 := by
          rw [List.getLast?_drop, if_neg (by omega)]; exact hlast
        have hlen : ((r :: t).drop (piece (r :: t)).2).length ≤ k := by
          rw [List.length_drop, List.length_cons]; omega
        have htk : (r :: t ++ b).take (piece (r :: t)).2 = (r :: t).take (piece (r :: t)).2 := List.take_append_of_le_length hle
        have hdr : (r :: t ++ b).drop (piece (r :: t)).2 = (r :: t).drop (piece (r :: t)).2 ++ b := List.drop_append_of_le_length hle
        by_cases hg : (piece (r :: t)).1 = -1
        · rw [lex_gap hne hg] at hok ⊢
          rw [lex_gap hne2 (by rw [hp]; exact hg), hp, htk, hdr]
          exact lex_join k _ b _ hlen hl2 hok
        · rw [lex_tok hne h0 hg] at hok ⊢
          rw [lex_tok hne2 (by rw [hp]; exact h0) (by rw [hp]; exact hg), hp, htk, hdr, lex_join k _ b _ hlen hl2 hok]
          rfl

/-- The four gaps. -/
def gaps : List (List Nat) := [[10], [32, 12288], [47, 47, 120, 10], [9, 13]]
theorem lex_gaps {g : List Nat} (h : g ∈ gaps) (b : List Nat) (p : Nat × Nat) : ∃ p', lex p (g ++ b) = lex p' b := by
  simp only [gaps, List.mem_cons, List.not_mem_nil, or_false] at h
  rcases h with rfl | rfl | rfl | rfl
  · exact ⟨_, lex_blank (by decide)⟩
  · exact ⟨_, (lex_blank (by decide)).trans (lex_blank (by decide))⟩
  · have hr : run inLine (47 :: 47 :: 120 :: 10 :: b) = 3 := by
      rw [run_cons _ (by decide), run_cons _ (by decide), run_cons _ (by decide), run_stop _ (by decide)]
    have h := lex_remark (p := p) (t := 47 :: 120 :: 10 :: b) rfl
    rw [hr] at h
    exact ⟨_, h.trans (lex_blank (r := 10) (t := b) (by decide))⟩
  · exact ⟨_, (lex_blank (by decide)).trans (lex_blank (by decide))⟩
/-- Two texts with a line's end and a gap between them. -/
theorem lex_three {q g t : List Nat} {p : Nat × Nat} (hlast : q.getLast? = some 10) (hg : g ∈ gaps) (h1 : (lex p q).2.2 = true) (h2 : (lex p t).2.2 = true) :
    kt (lex p (q ++ (g ++ t))).1 = kt (lex p q).1 ++ kt (lex p t).1 ∧ (lex p (q ++ (g ++ t))).2.2 = true := by
  rw [lex_join q.length q (g ++ t) p (Nat.le_refl _) hlast h1]
  obtain ⟨p', hp⟩ := lex_gaps hg t (lex p q).2.1
  rw [hp]
  have := lex_place t.length t p' p (Nat.le_refl _)
  exact ⟨by rw [kt_append, this.1], this.2.trans h2⟩

/-! ### the tokens' texts, with a blank behind each -/
def again (l : List Tok) : List Nat := l.flatMap fun t => t.text ++ [32]
theorem again_cons (t : Tok) (l : List Tok) : again (t :: l) = t.text ++ 32 :: again l := by simp [again]
theorem again_mem : ∀ {l : List Tok} {t : Tok}, t ∈ l → t.text.length + 1 ≤ (again l).length
  | [], _, h => by simp at h
  | u :: l, t, h => by
    rw [again_cons, List.length_append, List.length_cons]
    rcases List.mem_cons.1 h with rfl | h
    · omega
    · have := again_mem h
      omega
theorem again_take {l : List Tok} {i : Nat} (h : i < l.length) : again (l.take (i + 1)) = again (l.take i) ++ (l[i].text ++ [32]) := by
  rw [List.take_succ_eq_append_getElem h, again, List.flatMap_append, ← again]
  simp only [List.flatMap_cons, List.flatMap_nil, List.append_nil]
theorem again_part (l : List Tok) (i : Nat) : (again (l.take i)).length ≤ (again l).length := by
  have h : again l = again (l.take i) ++ again (l.drop i) := by
    rw [again, again, again, ← List.flatMap_append, List.take_append_drop]
  rw [h, List.length_append]; omega
theorem again_len : ∀ l : List Tok, l.length ≤ (again l).length
  | [] => Nat.zero_le _
  | t :: l => by
    rw [again_cons, List.length_append, List.length_cons, List.length_cons]
    have := again_len l
    omega
theorem kt_at {m l : List Tok} (h : kt m = kt l) {j : Nat} (h1 : j < m.length) (h2 : j < l.length) : m[j].kind = l[j].kind ∧ m[j].text = l[j].text := by
  have e : (kt m)[j]'(by rw [kt_len]; exact h1) = (kt l)[j]'(by rw [kt_len]; exact h2) := by simp only [h]
  simp only [kt, List.getElem_map] at e
  exact Prod.mk.inj e
theorem run_exact {f : Nat → Bool} : ∀ {a : List Nat} (y : Nat) (u : List Nat), (∀ x ∈ a, f x = true) → f y = false → run f (a ++ y :: u) = a.length
  | [], y, u, _, hy => run_stop _ hy
  | x :: a, y, u, h, hy => by
    rw [List.cons_append, run_cons _ (h x (by simp)), run_exact y u (fun z hz => h z (by simp [hz])) hy, List.length_cons]
/-- A token by itself. -/
def Tells (t : Tok) : Prop := 1 ≤ t.text.length ∧ t.kind ≠ 0 ∧ t.kind ≠ -1 ∧ (∀ r ∈ t.text, r < 128) ∧ ∀ u, piece (t.text ++ 32 :: u) = (t.kind, t.text.length)
theorem tells_piece {q : List Nat} (p : Nat × Nat) (h0 : (piece q).1 ≠ 0) (h1 : (piece q).1 ≠ -1) : Tells ⟨(piece q).1, q.take (piece q).2, p⟩ := by
  have hle := piece_le q
  have hlen : (q.take (piece q).2).length = (piece q).2 := by rw [List.length_take]; omega
  refine ⟨by show 1 ≤ (q.take (piece q).2).length; rw [hlen]; exact piece_pos h0, h0, h1, piece_low h1, fun u => ?_⟩
  show piece (q.take (piece q).2 ++ 32 :: u) = ((piece q).1, (q.take (piece q).2).length)
  rw [hlen]
  cases q with
  | nil => exact absurd rfl h0
  | cons r t =>
    rcases piece_cases r t with ⟨_, e⟩ | ⟨_, _, _, e⟩ | ⟨hb, hl, h47, h45, h16, e⟩ | ⟨_, _, _, _, _, e⟩ | ⟨hb, hl, h, h2, e⟩ | ⟨hb, hl, h, h2, e⟩ | ⟨_, _, _, _, e⟩
    · rw [e] at h1; exact absurd rfl h1
    · rw [e] at h1; exact absurd rfl h1
    · rw [e] at hlen ⊢
      have hr := run_exact (f := inWord) (a := (r :: t).take (run inWord (r :: t))) 32 u run_all (by decide)
      rw [hlen] at hr
      have hwo : word ((r :: t).take (run inWord (r :: t)) ++ 32 :: u) = (kindOf ((r :: t).take (run inWord (r :: t))), run inWord (r :: t)) := by
        rw [word, hr, if_neg (by simp only; omega), List.take_append_of_le_length (by rw [hlen]; exact Nat.le_refl _), List.take_take, Nat.min_self]
      have hcons : ∃ x, (r :: t).take (run inWord (r :: t)) = r :: x := by
        rw [run_cons _ (letter_inWord hl), List.take_succ_cons]; exact ⟨_, rfl⟩
      obtain ⟨x, hx⟩ := hcons
      have hpw : ∀ v, piece (r :: v) = word (r :: v) := fun v => by
        rw [piece, hb, if_neg (by simp), if_neg (fun h => h47 h.1), if_pos hl]
      refine Eq.trans ?_ hwo
      rw [hx, List.cons_append]
      exact hpw _
    · rw [e] at h0; exact absurd rfl h0
    · obtain ⟨v, rfl⟩ := headD_ne h2 (by omega)
      subst h; rw [e]; rfl
    · rw [e]
      have hs := sign_low h
      show piece (r :: 32 :: u) = _
      rw [piece, hb, if_neg (by simp), if_neg (fun hh => hs.2.2.2.1 hh.1), hl, if_neg (by simp), if_neg (by simp), h, if_pos rfl]
    · rw [e] at h0; exact absurd rfl h0
theorem lex_tells : ∀ (k : Nat) (q : List Nat) (p : Nat × Nat), q.length ≤ k → (∀ t ∈ (lex p q).1, Tells t) ∧ (again (lex p q).1).length ≤ 2 * q.length
  | k, q, p, hk => by
    by_cases h : q = []
    · subst h; rw [lex_nil]; simp [again]
    · by_cases h0 : (piece q).1 = 0
      · rw [lex_bad h h0]; simp [again]
      · have h1 := piece_pos h0
        have hle := piece_le q
        have hl : (q.drop (piece q).2).length = q.length - (piece q).2 := List.length_drop ..
        have hpos := List.length_pos_iff.2 h
        obtain ⟨k, rfl⟩ : ∃ j, k = j + 1 := ⟨k - 1, by omega⟩
        have ih := lex_tells k (q.drop (piece q).2) (behinds p (q.take (piece q).2)) (by omega)
        by_cases hg : (piece q).1 = -1
        · rw [lex_gap h hg]
          exact ⟨ih.1, by have := ih.2; omega⟩
        · rw [lex_tok h h0 hg]
          refine ⟨fun t ht => ?_, ?_⟩
          · rcases List.mem_cons.1 ht with rfl | ht
            · exact tells_piece p h0 hg
            · exact ih.1 t ht
          · rw [again_cons, List.length_append, List.length_cons, List.length_take]
            have := ih.2
            omega
theorem lex_again : ∀ (l : List Tok) (p : Nat × Nat), (∀ t ∈ l, Tells t) → kt (lex p (again l)).1 = kt l ∧ (lex p (again l)).2.2 = true
  | [], p, _ => by rw [show again [] = [] from rfl, lex_nil]; exact ⟨rfl, rfl⟩
  | t :: l, p, h => by
    obtain ⟨h1, h2, h3, h4, h5⟩ := h t (by simp)
    have hp := h5 (again l)
    have hne : t.text ++ 32 :: again l ≠ [] := by simp
    rw [again_cons, lex_tok hne (by rw [hp]; exact h2) (by rw [hp]; exact h3), hp]
    simp only
    rw [List.take_left' rfl, List.drop_left' rfl, lex_blank (by decide)]
    have ih := lex_again l (behind (behinds p t.text) 32) fun x hx => h x (by simp [hx])
    rw [kt_cons, kt_cons, ih.1]
    exact ⟨rfl, ih.2⟩
theorem again_low {l : List Tok} (h : ∀ t ∈ l, Tells t) : ∀ r ∈ again l, r < 128 := by
  intro r hr
  rw [again, List.mem_flatMap] at hr
  obtain ⟨t, ht, hr⟩ := hr
  rcases List.mem_append.1 hr with hr | hr
  · exact (h t ht).2.2.2.1 r hr
  · simp at hr; omega
end Go.Proofs.YtbphmaoomnocmaaDoor.Sg
