/-
  Plain mathematics under the statements of layer 6 (sigil): the tokens of a list of runes, with their places. No program is named here.
-/
import Derived.Test.YtbphmaoomnocmaaDoorClipPure
namespace Go.Proofs.YtbphmaoomnocmaaDoor.Sg
open Go

/-! ### runes -/
def blank (r : Nat) : Bool := decide (r = 9 ∨ r = 10 ∨ r = 13 ∨ r = 32 ∨ r = 12288)
def letter (r : Nat) : Bool := decide (97 ≤ r ∧ r ≤ 122)
def inWord (r : Nat) : Bool := decide ((97 ≤ r ∧ r ≤ 122) ∨ (48 ≤ r ∧ r ≤ 57) ∨ r = 95)
def inLine (r : Nat) : Bool := decide (r ≠ 10)
def signs : List Nat := [123, 125, 91, 93, 40, 41, 61, 59, 44, 58, 35, 42, 124, 38, 45]
def sign (r : Nat) : Bool := signs.contains r

theorem letter_inWord {r : Nat} (h : letter r = true) : inWord r = true := by
  simp only [letter, inWord, decide_eq_true_eq] at *; exact .inl h
theorem letter_blank {r : Nat} (h : letter r = true) : blank r = false := by
  simp only [letter, blank, decide_eq_true_eq, decide_eq_false_iff_not] at *; omega
theorem inWord_low {r : Nat} (h : inWord r = true) : r < 128 := by
  simp only [inWord, decide_eq_true_eq] at h; omega
theorem sign_mem {r : Nat} (h : sign r = true) : r ∈ signs := by simpa [sign] using h
theorem sign_low {r : Nat} (h : sign r = true) : r < 128 ∧ blank r = false ∧ letter r = false ∧ r ≠ 47 ∧ 6 ≤ r := by
  have : ∀ x ∈ signs, x < 128 ∧ blank x = false ∧ letter x = false ∧ x ≠ 47 ∧ 6 ≤ x := by decide
  exact this r (sign_mem h)

/-! ### places -/
def behind (p : Nat × Nat) (r : Nat) : Nat × Nat := if r = 10 then (p.1 + 1, 1) else (p.1, p.2 + 1)
def behinds (p : Nat × Nat) (q : List Nat) : Nat × Nat := q.foldl behind p
theorem behinds_nil (p : Nat × Nat) : behinds p [] = p := rfl
theorem behinds_cons (p : Nat × Nat) (r : Nat) (t : List Nat) : behinds p (r :: t) = behinds (behind p r) t := rfl
theorem behinds_append (p : Nat × Nat) (a b : List Nat) : behinds p (a ++ b) = behinds (behinds p a) b := List.foldl_append ..
theorem behinds_add (p : Nat × Nat) (q : List Nat) (a b : Nat) : behinds (behinds p (q.take a)) ((q.drop a).take b) = behinds p (q.take (a + b)) := by
  rw [← behinds_append, List.take_add]

/-! ### pieces -/
def kindOf (t : List Nat) : Int := if t = [116, 121, 112, 101] then 2 else if t = [114, 101, 108] then 3 else if t = [116, 104, 105, 115] then 4 else 1
def run (f : Nat → Bool) (q : List Nat) : Nat := (q.takeWhile f).length
/-- A word at the front: its kind, and how many runes. -/
def word (q : List Nat) : Int × Nat := if 16 < run inWord q then (0, 0) else (kindOf (q.take (run inWord q)), run inWord q)
/-- The longest piece at the front: its kind (0: none, -1: a gap), and how many runes. -/
def piece : List Nat → Int × Nat
  | [] => (0, 0)
  | r :: t =>
    if blank r then (-1, run blank (r :: t))
    else if r = 47 ∧ t.headD 0 = 47 then (-1, run inLine (r :: t))
    else if letter r then word (r :: t)
    else if r = 45 ∧ t.headD 0 = 62 then (5, 2)
    else if sign r then (r, 1)
    else (0, 0)

theorem run_le (f : Nat → Bool) (q : List Nat) : run f q ≤ q.length := (List.takeWhile_sublist _).length_le
theorem run_cons {f : Nat → Bool} {r : Nat} (t : List Nat) (h : f r = true) : run f (r :: t) = run f t + 1 := by
  simp [run, h]
theorem run_stop {f : Nat → Bool} {r : Nat} (t : List Nat) (h : f r = false) : run f (r :: t) = 0 := by
  simp [run, h]
theorem run_nil (f : Nat → Bool) : run f [] = 0 := rfl
theorem run_take (f : Nat → Bool) : ∀ q : List Nat, q.take (run f q) = q.takeWhile f
  | [] => rfl
  | r :: t => by
    cases h : f r with
    | false => rw [run_stop _ h, List.takeWhile_cons, h]; rfl
    | true => rw [run_cons _ h, List.takeWhile_cons, h, List.take_succ_cons, run_take f t]; rfl
theorem run_drop (f : Nat → Bool) : ∀ q : List Nat, q.drop (run f q) = q.dropWhile f
  | [] => rfl
  | r :: t => by
    cases h : f r with
    | false => rw [run_stop _ h, List.dropWhile_cons, h]; rfl
    | true => rw [run_cons _ h, List.dropWhile_cons, h, List.drop_succ_cons, run_drop f t]; rfl
theorem run_all {f : Nat → Bool} : ∀ {q : List Nat}, ∀ x ∈ q.take (run f q), f x = true
  | [], x, hx => by simp at hx
  | r :: t, x, hx => by
    cases h : f r with
    | false => rw [run_stop _ h] at hx; simp at hx
    | true =>
      rw [run_cons _ h, List.take_succ_cons] at hx
      rcases List.mem_cons.1 hx with rfl | hx
      · exact h
      · exact run_all x hx
/-- A run that ends within a list isn't longer in a longer one. -/
theorem run_append {f : Nat → Bool} : ∀ {a : List Nat} (b : List Nat), (∃ x ∈ a, f x = false) → run f (a ++ b) = run f a
  | [], _, h => by obtain ⟨x, hx, _⟩ := h; simp at hx
  | r :: a, b, h => by
    cases hr : f r with
    | false => rw [List.cons_append, run_stop _ hr, run_stop _ hr]
    | true =>
      rw [List.cons_append, run_cons _ hr, run_cons _ hr, run_append b]
      obtain ⟨x, hx, hf⟩ := h
      rcases List.mem_cons.1 hx with rfl | hx
      · rw [hr] at hf; cases hf
      · exact ⟨x, hx, hf⟩
theorem run_cut {f : Nat → Bool} : ∀ (q : List Nat) (g : Nat), run f q ≤ g → run f (q.take g) = run f q
  | [], g, _ => by simp
  | r :: t, 0, h => by
    cases hr : f r with
    | false => rw [run_stop _ hr]; rfl
    | true => rw [run_cons _ hr] at h; omega
  | r :: t, g + 1, h => by
    cases hr : f r with
    | false => rw [List.take_succ_cons, run_stop _ hr, run_stop _ hr]
    | true =>
      rw [run_cons _ hr] at h
      rw [List.take_succ_cons, run_cons _ hr, run_cons _ hr, run_cut t g (by omega)]

theorem kindOf_pos (t : List Nat) : 1 ≤ kindOf t ∧ kindOf t ≤ 4 := by
  unfold kindOf; split <;> (try split) <;> (try split) <;> omega

/-- What a piece may be. -/
theorem piece_cases (r : Nat) (t : List Nat) :
    (blank r = true ∧ piece (r :: t) = (-1, run blank (r :: t))) ∨
    (blank r = false ∧ r = 47 ∧ t.headD 0 = 47 ∧ piece (r :: t) = (-1, run inLine (r :: t))) ∨
    (blank r = false ∧ letter r = true ∧ r ≠ 47 ∧ r ≠ 45 ∧ run inWord (r :: t) ≤ 16 ∧ piece (r :: t) = (kindOf ((r :: t).take (run inWord (r :: t))), run inWord (r :: t))) ∨
    (blank r = false ∧ letter r = true ∧ r ≠ 47 ∧ r ≠ 45 ∧ 16 < run inWord (r :: t) ∧ piece (r :: t) = (0, 0)) ∨
    (blank r = false ∧ letter r = false ∧ r = 45 ∧ t.headD 0 = 62 ∧ piece (r :: t) = (5, 2)) ∨
    (blank r = false ∧ letter r = false ∧ sign r = true ∧ ¬ (r = 45 ∧ t.headD 0 = 62) ∧ piece (r :: t) = ((r : Int), 1)) ∨
    (blank r = false ∧ letter r = false ∧ sign r = false ∧ ¬ (r = 47 ∧ t.headD 0 = 47) ∧ piece (r :: t) = (0, 0)) := by
  rw [piece]
  cases hb : blank r with
  | true => exact .inl ⟨rfl, if_pos rfl⟩
  | false =>
    rw [if_neg (by simp)]
    by_cases h1 : r = 47 ∧ t.headD 0 = 47
    · rw [if_pos h1]; exact .inr (.inl ⟨rfl, h1.1, h1.2, rfl⟩)
    · rw [if_neg h1]
      cases hl : letter r with
      | true =>
        have h47 : r ≠ 47 ∧ r ≠ 45 := by simp only [letter, decide_eq_true_eq] at hl; omega
        rw [if_pos rfl, word]
        by_cases h2 : 16 < run inWord (r :: t)
        · rw [if_pos h2]; exact .inr (.inr (.inr (.inl ⟨rfl, rfl, h47.1, h47.2, h2, rfl⟩)))
        · rw [if_neg h2]; exact .inr (.inr (.inl ⟨rfl, rfl, h47.1, h47.2, by omega, rfl⟩))
      | false =>
        rw [if_neg (by simp)]
        by_cases h2 : r = 45 ∧ t.headD 0 = 62
        · rw [if_pos h2]; exact .inr (.inr (.inr (.inr (.inl ⟨rfl, rfl, h2.1, h2.2, rfl⟩))))
        · rw [if_neg h2]
          cases hs : sign r with
          | true => rw [if_pos rfl]; exact .inr (.inr (.inr (.inr (.inr (.inl ⟨rfl, rfl, rfl, h2, rfl⟩)))))
          | false => rw [if_neg (by simp)]; exact .inr (.inr (.inr (.inr (.inr (.inr ⟨rfl, rfl, rfl, h1, rfl⟩)))))

theorem headD_ne {t : List Nat} {x : Nat} (h : t.headD 0 = x) (hx : x ≠ 0) : ∃ u, t = x :: u := by
  cases t with
  | nil => exact absurd h.symm hx
  | cons a u => exact ⟨u, by rw [List.headD_cons] at h; rw [h]⟩

theorem piece_size (q : List Nat) : (piece q).2 ≤ q.length ∧ ((piece q).1 ≠ 0 → 1 ≤ (piece q).2) ∧ -1 ≤ (piece q).1 ∧ ((piece q).1 = 0 → (piece q).2 = 0) := by
  cases q with
  | nil => simp [piece]
  | cons r t =>
    have hb := run_le blank (r :: t)
    have hl := run_le inLine (r :: t)
    have hw := run_le inWord (r :: t)
    rcases piece_cases r t with ⟨h, e⟩ | ⟨_, h, h2, e⟩ | ⟨_, h, _, _, _, e⟩ | ⟨_, _, _, _, _, e⟩ | ⟨_, _, _, h, e⟩ | ⟨_, _, h, _, e⟩ | ⟨_, _, _, _, e⟩ <;> rw [e] <;> simp only
    · refine ⟨hb, fun _ => ?_, by omega, by omega⟩
      rw [run_cons _ h]; omega
    · refine ⟨hl, fun _ => ?_, by omega, by omega⟩
      rw [run_cons _ (by subst h; rfl)]; omega
    · have := kindOf_pos ((r :: t).take (run inWord (r :: t)))
      refine ⟨hw, fun _ => ?_, by omega, by omega⟩
      rw [run_cons _ (letter_inWord h)]; omega
    · exact ⟨by omega, fun h => absurd rfl h, by omega, fun _ => trivial⟩
    · obtain ⟨u, rfl⟩ := headD_ne h (by omega)
      exact ⟨by simp, by omega, by omega, by omega⟩
    · have := sign_low h
      exact ⟨by simp, by omega, by omega, by omega⟩
    · exact ⟨by omega, fun h => absurd rfl h, by omega, fun _ => trivial⟩
theorem piece_le (q : List Nat) : (piece q).2 ≤ q.length := (piece_size q).1
theorem piece_pos {q : List Nat} (h : (piece q).1 ≠ 0) : 1 ≤ (piece q).2 := (piece_size q).2.1 h

/-! ### all tokens -/
structure Tok where
  kind : Int
  text : List Nat
  at' : Nat × Nat

/-- All tokens from a place on; the place behind them, or the first place where there is none; whether all could be told. -/
def lex (p : Nat × Nat) (q : List Nat) : List Tok × (Nat × Nat) × Bool :=
  if _h : q = [] then ([], p, true)
  else if (piece q).1 = 0 then ([], p, false)
  else
    let r := lex (behinds p (q.take (max (piece q).2 1))) (q.drop (max (piece q).2 1))
    if (piece q).1 = -1 then r else (⟨(piece q).1, q.take (piece q).2, p⟩ :: r.1, r.2)
termination_by q.length
decreasing_by
  rw [List.length_drop]
  have := List.length_pos_iff.2 _h
  omega

theorem lex_nil (p : Nat × Nat) : lex p [] = ([], p, true) := by rw [lex]; rfl
theorem lex_bad {p : Nat × Nat} {q : List Nat} (h : q ≠ []) (h0 : (piece q).1 = 0) : lex p q = ([], p, false) := by
  rw [lex, dif_neg h, if_pos h0]
theorem lex_gap {p : Nat × Nat} {q : List Nat} (h : q ≠ []) (h0 : (piece q).1 = -1) : lex p q = lex (behinds p (q.take (piece q).2)) (q.drop (piece q).2) := by
  have hm : max (piece q).2 1 = (piece q).2 := Nat.max_eq_left (piece_pos (by omega))
  conv => lhs; rw [lex]
  rw [dif_neg h, if_neg (by omega), if_pos h0, hm]
theorem lex_tok {p : Nat × Nat} {q : List Nat} (h : q ≠ []) (h0 : (piece q).1 ≠ 0) (h1 : (piece q).1 ≠ -1) :
    lex p q = (⟨(piece q).1, q.take (piece q).2, p⟩ :: (lex (behinds p (q.take (piece q).2)) (q.drop (piece q).2)).1, (lex (behinds p (q.take (piece q).2)) (q.drop (piece q).2)).2) := by
  have hm : max (piece q).2 1 = (piece q).2 := Nat.max_eq_left (piece_pos h0)
  conv => lhs; rw [lex]
  rw [dif_neg h, if_neg h0, if_neg h1, hm]

theorem piece_blank {r : Nat} {t : List Nat} (h : blank r = true) : piece (r :: t) = (-1, run blank (r :: t)) := by
  rw [piece, if_pos h]

/-- Blanks, one by one. -/
theorem lex_blank {p : Nat × Nat} {r : Nat} {t : List Nat} (h : blank r = true) : lex p (r :: t) = lex (behind p r) t := by
  have e := piece_blank (t := t) h
  rw [lex_gap (by simp) (by rw [e]), e]
  simp only
  rw [run_cons _ h, List.take_succ_cons, List.drop_succ_cons, behinds_cons]
  cases t with
  | nil => rfl
  | cons r2 t2 =>
    cases h2 : blank r2 with
    | false => rw [run_stop _ h2]; rfl
    | true =>
      have e2 := piece_blank (t := t2) h2
      rw [lex_gap (q := r2 :: t2) (by simp) (by rw [e2]), e2]

theorem lex_remark {p : Nat × Nat} {t : List Nat} (h : t.headD 0 = 47) : lex p (47 :: t) = lex (behinds p ((47 :: t).take (run inLine (47 :: t)))) ((47 :: t).drop (run inLine (47 :: t))) := by
  have e : piece (47 :: t) = (-1, run inLine (47 :: t)) := by rw [piece, if_neg (by decide), if_pos ⟨rfl, h⟩]
  rw [lex_gap (by simp) (by rw [e]), e]

/-! ### the whole -/
/-- The error's number, the place, the tokens. -/
def ans : Option (List Nat) → Int × (Nat × Nat) × List Tok
  | none => (4, (0, 0), [])
  | some q => if 3000 < q.length then (3, (0, 0), []) else if (lex (1, 1) q).2.2 then (0, (lex (1, 1) q).2.1, (lex (1, 1) q).1) else (10, (lex (1, 1) q).2.1, [])
theorem ans_long {q : List Nat} (h : 3000 < q.length) : ans (some q) = (3, (0, 0), []) := by rw [ans, if_pos h]
theorem ans_ok {q : List Nat} (h : ¬ 3000 < q.length) (h2 : (lex (1, 1) q).2.2 = true) : ans (some q) = (0, (lex (1, 1) q).2.1, (lex (1, 1) q).1) := by rw [ans, if_neg h, if_pos h2]
theorem ans_bad {q : List Nat} (h : ¬ 3000 < q.length) (h2 : (lex (1, 1) q).2.2 = false) : ans (some q) = (10, (lex (1, 1) q).2.1, []) := by
  rw [ans, if_neg h, if_neg (by rw [h2]; simp)]

theorem behind_le (p : Nat × Nat) (r : Nat) : (behind p r).1 ≤ p.1 + 1 ∧ (behind p r).2 ≤ p.2 + 1 := by
  unfold behind; split <;> constructor <;> simp only <;> omega
theorem behinds_le : ∀ (q : List Nat) (p : Nat × Nat), (behinds p q).1 ≤ p.1 + q.length ∧ (behinds p q).2 ≤ p.2 + q.length
  | [], _ => ⟨Nat.le_refl _, Nat.le_refl _⟩
  | r :: t, p => by
    have := behinds_le t (behind p r)
    have := behind_le p r
    rw [behinds_cons, List.length_cons]; omega

/-- Tokens' texts are of letters, digits, signs. -/
theorem piece_low {q : List Nat} (h0 : (piece q).1 ≠ -1) : ∀ r ∈ q.take (piece q).2, r < 128 := by
  cases q with
  | nil => simp
  | cons r t =>
    rcases piece_cases r t with ⟨_, e⟩ | ⟨_, _, _, e⟩ | ⟨_, _, _, _, _, e⟩ | ⟨_, _, _, _, _, e⟩ | ⟨_, _, h, h2, e⟩ | ⟨_, _, h, _, e⟩ | ⟨_, _, _, _, e⟩ <;> rw [e] at h0 ⊢ <;> simp only at h0 ⊢
    · exact absurd rfl h0
    · exact absurd rfl h0
    · exact fun x hx => inWord_low (run_all x hx)
    · simp
    · obtain ⟨u, rfl⟩ := headD_ne h2 (by omega)
      subst h; simp
    · have := sign_low h
      simp; omega
    · simp
end Go.Proofs.YtbphmaoomnocmaaDoor.Sg
