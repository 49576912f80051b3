/-
  Layer 10 (cask), pure: numbers and texts taken, as functions: nothing, and no bytes, where there is none.
-/
import Derived.Test.YtopncohhagebbaaDoorCkDn
namespace Go.Proofs.YtopncohhagebbaaDoor
open Go.RowKit
namespace Ck
open Knot (takeN takeT takeM value)
open Tr (Nd none0)
open Who (bs bs_list bs_size)

def textS (l : List UInt8) (most : Int) : ByteArray × Nat := match takeT l most with
  | some (t, r) => (bs t, l.length - r.length)
  | none => (⟨#[]⟩, 0)
theorem takeT_cut {l t r : List UInt8} {most : Int} (h : takeT l most = some (t, r)) : ∃ k, Cutd l r k := by
  rw [takeT] at h
  cases hn : takeN l most with
  | none => rw [hn] at h; cases h
  | some p =>
    obtain ⟨n, x⟩ := p
    rw [hn] at h
    obtain ⟨k, h1, h2, h3, -⟩ := takeN_len hn
    by_cases hb : x[n]? = some 44
    · have h' := h
      simp only [hb, if_true] at h'
      obtain ⟨rfl, rfl⟩ := Prod.mk.inj (Option.some.inj h')
      have hl := (List.getElem?_eq_some_iff.1 hb).1
      exact ⟨k + n + 1, by omega, by rw [List.length_drop]; omega, by rw [← h3, List.drop_drop, Nat.add_assoc]⟩
    · simp only [hb, if_false] at h
      cases h
theorem textS_le (l : List UInt8) (most : Int) : (textS l most).2 ≤ l.length := by
  rw [textS]
  split <;> simp <;> omega
theorem textS_none {l : List UInt8} {most : Int} (h : (textS l most).2 = 0) : takeT l most = none := by
  cases ht : takeT l most with
  | none => rfl
  | some p =>
    obtain ⟨t, r⟩ := p
    obtain ⟨k, h1, h2, -⟩ := takeT_cut ht
    rw [textS, ht] at h
    simp only at h
    omega
theorem textS_some {l : List UInt8} {most : Int} (h : (textS l most).2 ≠ 0) : ∃ t, takeT l most = some (t, l.drop (textS l most).2) ∧ (textS l most).1 = bs t ∧ (t.length : Int) ≤ most := by
  cases ht : takeT l most with
  | none => rw [textS, ht] at h; exact absurd rfl h
  | some p =>
    obtain ⟨t, r⟩ := p
    obtain ⟨k, h1, h2, h3⟩ := takeT_cut ht
    refine ⟨t, ?_, by rw [textS, ht], (takeT_of ht).2⟩
    rw [textS, ht]
    simp only
    rw [show l.length - r.length = k by omega, h3]
theorem numS_le (l : List UInt8) (most : Int) : (numS l most).2 ≤ l.length := by
  cases ht : takeN l most with
  | none => rw [numS, ht]; exact Nat.zero_le _
  | some p =>
    obtain ⟨n, r⟩ := p
    obtain ⟨k, h1, h2, -, h4⟩ := takeN_len ht
    rw [h4]
    simp only
    omega
theorem numS_no {l : List UInt8} {most : Int} (h : (numS l most).2 = 0) : takeN l most = none := by
  cases ht : takeN l most with
  | none => rfl
  | some p =>
    obtain ⟨n, r⟩ := p
    obtain ⟨k, h1, h2, -, h4⟩ := takeN_len ht
    rw [h4] at h
    simp only at h
    omega
theorem numS_yes {l : List UInt8} {most : Int} (h : (numS l most).2 ≠ 0) : takeN l most = some ((numS l most).1, l.drop (numS l most).2) ∧ (numS l most).1 < 10 ^ 17 ∧ ((numS l most).1 : Int) ≤ most := by
  cases ht : takeN l most with
  | none => rw [numS, ht] at h; exact absurd rfl h
  | some p =>
    obtain ⟨n, r⟩ := p
    obtain ⟨k, h1, h2, h3, h4⟩ := takeN_len ht
    have h5 := takeN_of ht
    rw [h4]
    exact ⟨by simp only [h3], h5.2.2, h5.2.1⟩
theorem numS_lt (l : List UInt8) (most : Int) : (numS l most).1 < 10 ^ 17 := by
  by_cases h : (numS l most).2 = 0
  · rw [numS, numS_no h]; exact Nat.pow_pos (by decide)
  · exact (numS_yes h).2.1

/-- The document's text, as a function says it. -/
theorem dtexts_any (s : ByteArray) (most : Int) (w : World) (hz : s.size ≤ 1000000000000) :
    Calls Tryd.prog 15 #[.string s, .int .i64 most] w fun e x => e = .returned (.tuple #[.string (textS s.data.toList most).1, .int .i64 (textS s.data.toList most).2]) ∧ w = x := by
  refine (dtext_any s most w hz).mono ?_
  rintro e x ⟨hw, ⟨ht, rfl⟩ | ⟨t, r, k, ht, ⟨h1, h2, h3⟩, hm, rfl⟩⟩
  · exact ⟨by rw [textS, ht]; rfl, hw⟩
  · refine ⟨?_, hw⟩
    rw [textS, ht]
    simp only
    rw [show s.data.toList.length - r.length = k by omega]

/-- A node, by its head. -/
theorem node_head (lim : Nat → Int) (d : Nat) (l : List UInt8) {a b c e : Nat} (ha : a = (numS l 6).2) (hb : b = (textS (l.drop a) 16).2) (hc : c = (textS (l.drop (a + b)) 16).2) (he : e = (numS (l.drop (a + b + c)) (lim d)).2) :
    nodeT lim (d + 1) l = if a = 0 ∨ b = 0 ∨ c = 0 ∨ e = 0 then none else
      match repsT (nodeT lim d) (numS (l.drop (a + b + c)) (lim d)).1 (l.drop (a + b + c + e)) with
      | none => none
      | some (xs, q) => some (.mk ((numS l 6).1 : Nat) (textS (l.drop a) 16).1 (textS (l.drop (a + b)) 16).1 xs, q) := by
  by_cases h1 : a = 0
  · rw [if_pos (.inl h1), nodeT, numS_no (by omega)]
  have h1' : (numS l 6).2 ≠ 0 := by omega
  have e1 := (numS_yes h1').1
  rw [← ha] at e1
  by_cases h2 : b = 0
  · rw [if_pos (.inr (.inl h2)), nodeT, e1]
    simp only
    rw [textS_none (by omega)]
  obtain ⟨t, e2, e2', -⟩ := textS_some (l := l.drop a) (most := 16) (by omega)
  rw [← hb, List.drop_drop] at e2
  by_cases h3 : c = 0
  · rw [if_pos (.inr (.inr (.inl h3))), nodeT, e1]
    simp only
    rw [e2]
    simp only
    rw [textS_none (by omega)]
  obtain ⟨u, e3, e3', -⟩ := textS_some (l := l.drop (a + b)) (most := 16) (by omega)
  rw [← hc, List.drop_drop] at e3
  by_cases h4 : e = 0
  · rw [if_pos (.inr (.inr (.inr h4))), nodeT, e1]
    simp only
    rw [e2]
    simp only
    rw [e3]
    simp only [listT]
    rw [numS_no (by omega)]
  have e4 := (numS_yes (l := l.drop (a + b + c)) (most := lim d) (by omega)).1
  rw [← he, List.drop_drop] at e4
  rw [if_neg (by omega), nodeT, e1]
  simp only
  rw [e2]
  simp only
  rw [e3]
  simp only [listT]
  rw [e4]
  simp only
  rw [e2', e3']
  cases repsT (nodeT lim d) (numS (l.drop (a + b + c)) (lim d)).1 (l.drop (a + b + c + e)) with
  | none => rfl
  | some p => rfl
/-! ### lists, one by one -/
theorem reps_snoc {α : Type} {t : Tk α} : ∀ (j : Nat) {s r q : List UInt8} {xs : List α} {x : α}, repsT t j s = some (xs, r) → t r = some (x, q) → repsT t (j + 1) s = some (xs ++ [x], q)
  | 0, s, r, q, xs, x, h, hx => by
    rw [repsT] at h
    obtain ⟨rfl, rfl⟩ := Prod.mk.inj (Option.some.inj h)
    rw [repsT, hx]
    simp only [repsT]
    rfl
  | j + 1, s, r, q, xs, x, h, hx => by
    rw [repsT] at h
    split at h
    · cases h
    · rename_i y r1 hy
      split at h
      · cases h
      · rename_i ys q1 hys
        obtain ⟨rfl, rfl⟩ := Prod.mk.inj (Option.some.inj h)
        rw [repsT, hy]
        simp only
        rw [reps_snoc j hys hx]
        rfl
theorem reps_stop {α : Type} {t : Tk α} (m : Nat) : ∀ (j : Nat) {s r : List UInt8} {xs : List α}, repsT t j s = some (xs, r) → t r = none → repsT t (j + 1 + m) s = none
  | 0, s, r, xs, h, hx => by
    rw [repsT] at h
    obtain ⟨rfl, rfl⟩ := Prod.mk.inj (Option.some.inj h)
    rw [show 0 + 1 + m = m + 1 by omega, repsT, hx]
  | j + 1, s, r, xs, h, hx => by
    rw [repsT] at h
    split at h
    · cases h
    · rename_i y r1 hy
      split at h
      · cases h
      · rename_i ys q1 hys
        obtain ⟨rfl, rfl⟩ := Prod.mk.inj (Option.some.inj h)
        rw [show j + 1 + 1 + m = j + 1 + m + 1 by omega, repsT, hy]
        simp only
        rw [reps_stop m j hys hx]
end Ck
end Go.Proofs.YtopncohhagebbaaDoor
