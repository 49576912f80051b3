/-
  Plain mathematics under Clip, and under texts that are cut behind a rune.
-/
import Derived.Test.YtbphmaoomnocmaaDoorGlyPureB
namespace Go.Proofs.YtbphmaoomnocmaaDoor.Gly
open Go

/-- The bytes of the first n runes. -/
def pre : Nat → List UInt8 → Nat
  | 0, _ => 0
  | n + 1, l => if l = [] then 0 else (dec l).2 + pre n (l.drop (dec l).2)

theorem pre_nil (n : Nat) : pre n [] = 0 := by cases n <;> simp [pre]
theorem pre_step {n : Nat} {l : List UInt8} (h : l ≠ []) : pre (n + 1) l = (dec l).2 + pre n (l.drop (dec l).2) := by rw [pre, if_neg h]

theorem pre_le : ∀ (n : Nat) (l : List UInt8), pre n l ≤ l.length
  | 0, _ => Nat.zero_le _
  | n + 1, l => by
    by_cases h : l = []
    · subst h; rw [pre_nil]; exact Nat.zero_le _
    · rw [pre_step h]
      have := pre_le n (l.drop (dec l).2)
      have hw := dec_width l h
      rw [List.length_drop] at this
      omega

theorem pre_back : ∀ (n : Nat) (l : List UInt8), l.drop (pre n l) ≠ [] → pre (n + 1) l = pre n l + (dec (l.drop (pre n l))).2
  | 0, l, h => by
    have h' : l ≠ [] := by simpa [pre] using h
    rw [pre_step h']
    simp [pre]
  | n + 1, l, h => by
    have hl : l ≠ [] := by
      intro e; subst e; simp at h
    rw [pre_step hl] at h
    rw [← List.drop_drop] at h
    rw [pre_step hl, pre_back n _ h, pre_step hl, ← List.drop_drop]
    omega

theorem pre_stop : ∀ (n : Nat) (l : List UInt8), l.drop (pre n l) = [] → pre (n + 1) l = pre n l
  | 0, l, h => by
    have h' : l = [] := by simpa [pre] using h
    subst h'; rw [pre_nil, pre_nil]
  | n + 1, l, h => by
    by_cases hl : l = []
    · subst hl; rw [pre_nil, pre_nil]
    · rw [pre_step hl, ← List.drop_drop] at h
      rw [pre_step hl, pre_stop n _ h, pre_step hl]

theorem pre_full {k : Nat} {l : List UInt8} (h : l.drop (pre k l) = []) : ∀ n, k ≤ n → pre n l = l.length := by
  have base : pre k l = l.length := by
    have h1 := pre_le k l
    have h2 := congrArg List.length h
    rw [List.length_drop] at h2
    simp at h2
    omega
  have step : ∀ d, pre (k + d) l = l.length := by
    intro d
    induction d with
    | zero => exact base
    | succ d ih =>
      have : l.drop (pre (k + d) l) = [] := by rw [ih]; exact List.drop_length
      rw [← Nat.add_assoc, pre_stop _ _ this, ih]
  intro n hn
  have := step (n - k)
  rwa [show k + (n - k) = n by omega] at this

theorem runes_drop : ∀ (n : Nat) (l : List UInt8) (t : List Nat), runes l = some t → runes (l.drop (pre n l)) = some (t.drop n)
  | 0, l, t, h => by simpa [pre] using h
  | n + 1, l, t, h => by
    by_cases hl : l = []
    · subst hl
      rw [runes_nil] at h; cases h
      rw [pre_nil]; simp [runes_nil]
    · cases hb : bad l with
      | true => rw [runes_bad hl hb] at h; cases h
      | false =>
        rw [runes_step hl hb] at h
        cases hu : runes (l.drop (dec l).2) with
        | none => rw [hu] at h; cases h
        | some u =>
          rw [hu] at h; cases h
          rw [pre_step hl, ← List.drop_drop]
          simpa using runes_drop n _ u hu

theorem runes_some_nil {l : List UInt8} (h : runes l = some []) : l = [] := by
  apply Classical.byContradiction
  intro hl
  cases hb : bad l with
  | true => rw [runes_bad hl hb] at h; cases h
  | false =>
    rw [runes_step hl hb] at h
    cases hu : runes (l.drop (dec l).2) with
    | none => rw [hu] at h; cases h
    | some u => rw [hu] at h; cases h
theorem runes_good {l : List UInt8} {t : List Nat} (h : runes l = some t) (hl : l ≠ []) : bad l = false := by
  cases hb : bad l with
  | true => rw [runes_bad hl hb] at h; cases h
  | false => rfl
theorem runes_ne {l : List UInt8} {t : List Nat} (h : runes l = some t) (ht : t ≠ []) : l ≠ [] := by
  intro e; subst e; rw [runes_nil] at h; exact ht (Option.some.inj h).symm

theorem pre_all {l : List UInt8} {t : List Nat} (h : runes l = some t) {n : Nat} (hn : t.length ≤ n) : pre n l = l.length := by
  refine pre_full (k := t.length) ?_ n hn
  have := runes_drop t.length l t h
  rw [List.drop_length] at this
  exact runes_some_nil this

/-! ### what is decoded hangs on the rune's own bytes -/
theorem byte_take {l : List UInt8} {m k : Nat} (h : k < m) : byte (l.take m) k = byte l k := by
  unfold byte
  rw [List.getD, List.getD, List.getElem?_take, if_pos h]
theorem dec_of2 {l : List UInt8} (h : 192 ≤ byte l 0 ∧ byte l 0 < 224) (hl : 2 ≤ l.length) (c1 : byte l 1 / 64 = 2) (v : 128 ≤ byte l 0 % 32 * 64 + byte l 1 % 64) : dec l = (byte l 0 % 32 * 64 + byte l 1 % 64, 2) := by
  rw [dec_def, Lib.decodeN, if_neg (by omega), if_pos (by omega), if_pos v]
theorem dec_of3 {l : List UInt8} (h : 224 ≤ byte l 0 ∧ byte l 0 < 240) (hl : 3 ≤ l.length) (c1 : byte l 1 / 64 = 2) (c2 : byte l 2 / 64 = 2) (v : 2048 ≤ byte l 0 % 16 * 4096 + byte l 1 % 64 * 64 + byte l 2 % 64)
    (u : byte l 0 % 16 * 4096 + byte l 1 % 64 * 64 + byte l 2 % 64 < 55296 ∨ 57344 ≤ byte l 0 % 16 * 4096 + byte l 1 % 64 * 64 + byte l 2 % 64) : dec l = (byte l 0 % 16 * 4096 + byte l 1 % 64 * 64 + byte l 2 % 64, 3) := by
  rw [dec_def, Lib.decodeN, if_neg (by omega), if_neg (by omega), if_pos (by omega), if_pos (by omega)]
theorem dec_of4 {l : List UInt8} (h : 240 ≤ byte l 0 ∧ byte l 0 < 248) (hl : 4 ≤ l.length) (c1 : byte l 1 / 64 = 2) (c2 : byte l 2 / 64 = 2) (c3 : byte l 3 / 64 = 2) (v : 65536 ≤ byte l 0 % 8 * 262144 + byte l 1 % 64 * 4096 + byte l 2 % 64 * 64 + byte l 3 % 64)
    (u : byte l 0 % 8 * 262144 + byte l 1 % 64 * 4096 + byte l 2 % 64 * 64 + byte l 3 % 64 ≤ 1114111) : dec l = (byte l 0 % 8 * 262144 + byte l 1 % 64 * 4096 + byte l 2 % 64 * 64 + byte l 3 % 64, 4) := by
  rw [dec_def, Lib.decodeN, if_neg (by omega), if_neg (by omega), if_neg (by omega), if_pos (by omega), if_pos (by omega)]

/-- Two lists that begin with the same bytes, as many as the rune has, have the same rune in front. -/
theorem dec_same {l k : List UInt8} (h : l ≠ []) (hb : bad l = false) (hk : (dec l).2 ≤ k.length) (hs : ∀ j, j < (dec l).2 → byte k j = byte l j) : dec k = dec l := by
  rcases dec_cases l h with ⟨a, e⟩ | ⟨a, b, c, d, f, e⟩ | ⟨a, b, c, d, f, g, i, e⟩ | ⟨a, b, c, d, f, g, i, j, e⟩ | ⟨a, e⟩
  · rw [e] at hk hs ⊢
    simp only at hk hs
    have e0 := hs 0 (by omega)
    rw [dec_def, Lib.decodeN, if_pos (by rw [e0]; exact a), e0]
  · rw [e] at hk hs
    simp only at hk hs
    have e0 := hs 0 (by omega); have e1 := hs 1 (by omega)
    rw [dec_of2 (by rw [e0]; exact ⟨a, b⟩) hk (by rw [e1]; exact d) (by rw [e0, e1]; exact f), e0, e1, e]
  · rw [e] at hk hs
    simp only at hk hs
    have e0 := hs 0 (by omega); have e1 := hs 1 (by omega); have e2 := hs 2 (by omega)
    rw [dec_of3 (by rw [e0]; exact ⟨a, b⟩) hk (by rw [e1]; exact d) (by rw [e2]; exact f) (by rw [e0, e1, e2]; exact g) (by rw [e0, e1, e2]; exact i), e0, e1, e2, e]
  · rw [e] at hk hs
    simp only at hk hs
    have e0 := hs 0 (by omega); have e1 := hs 1 (by omega); have e2 := hs 2 (by omega); have e3 := hs 3 (by omega)
    rw [dec_of4 (by rw [e0]; exact ⟨a, b⟩) hk (by rw [e1]; exact d) (by rw [e2]; exact f) (by rw [e3]; exact g) (by rw [e0, e1, e2, e3]; exact i) (by rw [e0, e1, e2, e3]; exact j), e0, e1, e2, e3, e]
  · rw [bad, e] at hb; simp at hb

theorem dec_take {l : List UInt8} {m : Nat} (h : l ≠ []) (hb : bad l = false) (hm : (dec l).2 ≤ m) : dec (l.take m) = dec l := by
  have hw := dec_width l h
  exact dec_same h hb (by rw [List.length_take]; omega) (fun j hj => byte_take (by omega))
theorem bad_take {l : List UInt8} {m : Nat} (h : l ≠ []) (hb : bad l = false) (hm : (dec l).2 ≤ m) : bad (l.take m) = false := by
  rw [bad, dec_take h hb hm]; exact hb

theorem take_ne {l : List UInt8} {m : Nat} (h : l ≠ []) (hm : 1 ≤ m) : l.take m ≠ [] := by
  cases l with
  | nil => exact absurd rfl h
  | cons a t =>
    obtain ⟨m, rfl⟩ : ∃ j, m = j + 1 := ⟨m - 1, by omega⟩
    simp

theorem runes_take : ∀ (n : Nat) (l : List UInt8) (t : List Nat), runes l = some t → runes (l.take (pre n l)) = some (t.take n)
  | 0, l, t, _ => by simp [pre, runes_nil]
  | n + 1, l, t, h => by
    by_cases hl : l = []
    · subst hl
      rw [runes_nil] at h; cases h
      simp [runes_nil]
    · have hb := runes_good h hl
      have hw := dec_width l hl
      rw [runes_step hl hb] at h
      cases hu : runes (l.drop (dec l).2) with
      | none => rw [hu] at h; cases h
      | some u =>
        rw [hu] at h; cases h
        rw [pre_step hl]
        have hm : (dec l).2 ≤ (dec l).2 + pre n (l.drop (dec l).2) := by omega
        rw [runes_step (take_ne hl (by omega)) (bad_take hl hb hm), dec_take hl hb hm, List.drop_take, show (dec l).2 + pre n (l.drop (dec l).2) - (dec l).2 = pre n (l.drop (dec l).2) by omega, runes_take n _ u hu]
        simp

theorem piece_take {l : List UInt8} {m : Nat} (h : l ≠ []) (hb : bad l = false) (hm : (dec l).2 ≤ m) : piece (l.take m) = piece l := by
  unfold piece
  rw [bad_take h hb hm, hb, dec_take h hb hm, List.take_take, Nat.min_eq_left hm]
  simp

/-- A quote's inside, cut behind a rune, is two quotes' insides. -/
theorem qb_split : ∀ (n : Nat) (l : List UInt8) (t : List Nat), runes l = some t → qb (l.take (pre n l)) ++ qb (l.drop (pre n l)) = qb l
  | 0, l, t, _ => by simp [pre, qb_nil]
  | n + 1, l, t, h => by
    by_cases hl : l = []
    · subst hl; simp [qb_nil]
    · have hb := runes_good h hl
      have hw := dec_width l hl
      rw [runes_step hl hb] at h
      cases hu : runes (l.drop (dec l).2) with
      | none => rw [hu] at h; cases h
      | some u =>
        rw [pre_step hl]
        have hm : (dec l).2 ≤ (dec l).2 + pre n (l.drop (dec l).2) := by omega
        rw [qb_step (take_ne hl (by omega)), piece_take hl hb hm, dec_take hl hb hm, List.drop_take, show (dec l).2 + pre n (l.drop (dec l).2) - (dec l).2 = pre n (l.drop (dec l).2) by omega, ← List.drop_drop, List.append_assoc, qb_split n _ u hu, ← qb_step hl]
end Go.Proofs.YtbphmaoomnocmaaDoor.Gly
