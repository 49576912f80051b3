/-
  Plain mathematics under package who's split: what is known while a text is gone through rune by rune. No program is named here.
-/
import Derived.Test.YtbgbkhjcfchamaaWhoPure
namespace Go.Proofs.Ytbgbkhjcfchamaa.Who
open Go Gly

theorem sign_none {l : List UInt8} (h : l ≠ []) {c : UInt8} (hc : c.toNat < 128) (hne : (dec l).1 ≠ c.toNat) : c ∉ l.take (dec l).2 := fun hm => by
  obtain ⟨k, hk, e⟩ := take_bytes_mem (dec_width l h).2.1 hm
  rcases dec_bytes h hk with ⟨_, e2⟩ | e2 <;> omega
theorem sign_here {l : List UInt8} (h : l ≠ []) {c : UInt8} (hc : c.toNat < 128) (he : (dec l).1 = c.toNat) : (dec l).2 = 1 ∧ l = c :: l.drop 1 := by
  have hlow : byte l 0 < 128 := by
    refine Nat.lt_of_not_le fun hge => ?_
    have := dec_high h hge
    omega
  have hd := dec_low h hlow
  rw [hd] at he ⊢
  refine ⟨rfl, ?_⟩
  have h0 := cons_byte h
  have : l.getD 0 0 = c := UInt8.toNat_inj.1 he
  rw [this] at h0
  exact h0

theorem take_more (l : List UInt8) (p k : Nat) : l.take (p + k) = l.take p ++ (l.drop p).take k := List.take_add
theorem piece_more (l : List UInt8) {a p : Nat} (h : a ≤ p) (k : Nat) : (l.drop a).take (p + k - a) = (l.drop a).take (p - a) ++ (l.drop p).take k := by
  rw [show p + k - a = (p - a) + k by omega, List.take_add, List.drop_drop, show a + (p - a) = p by omega]

/-- What is known with n signs found, the last piece beginning at a, all ahead of p gone through. -/
def St (l : List UInt8) (n a p : Nat) (p0 p1 : List UInt8) : Prop :=
  a ≤ p ∧ p ≤ l.length ∧
  ((n = 0 ∧ a = 0 ∧ p0 = [] ∧ p1 = [] ∧ 58 ∉ l.take p) ∨
   (n = 1 ∧ p1 = [] ∧ l = p0 ++ 58 :: l.drop a ∧ 58 ∉ p0 ∧ 35 ∉ (l.drop a).take (p - a)) ∨
   (n = 2 ∧ sp l = (p0, p1, l.drop a)))

theorem St.le {l : List UInt8} {n a p : Nat} {p0 p1 : List UInt8} (h : St l n a p p0 p1) : n ≤ 2 ∧ a ≤ p ∧ p ≤ l.length := by
  refine ⟨?_, h.1, h.2.1⟩
  rcases h.2.2 with h | h | h <;> omega
theorem St.start (l : List UInt8) : St l 0 0 0 [] [] := ⟨Nat.le_refl _, Nat.zero_le _, Or.inl ⟨rfl, rfl, rfl, rfl, by simp⟩⟩

theorem drop_ne' {l : List UInt8} {p : Nat} (h : p < l.length) : l.drop p ≠ [] := by
  intro e
  have := congrArg List.length e
  rw [List.length_drop] at this
  simp at this; omega
theorem next_le {l : List UInt8} {p : Nat} (h : p < l.length) : 1 ≤ (dec (l.drop p)).2 ∧ p + (dec (l.drop p)).2 ≤ l.length := by
  have := dec_width _ (drop_ne' h)
  rw [List.length_drop] at this
  omega

theorem St.colon {l : List UInt8} {a p : Nat} {p0 p1 : List UInt8} (h : St l 0 a p p0 p1) (hp : p < l.length) (hr : (dec (l.drop p)).1 = 58) :
    (dec (l.drop p)).2 = 1 ∧ St l 1 (p + 1) (p + 1) ((l.drop a).take (p - a)) p1 := by
  obtain ⟨h1, h2⟩ := sign_here (c := 58) (drop_ne' hp) (by decide) hr
  refine ⟨h1, Nat.le_refl _, hp, Or.inr (Or.inl ?_)⟩
  rcases h.2.2 with ⟨_, rfl, rfl, rfl, hn⟩ | h | h
  · refine ⟨rfl, rfl, ?_, ?_, by simp⟩
    · rw [List.drop_zero, Nat.sub_zero]
      conv => lhs; rw [← List.take_append_drop p l, h2]
      rw [List.drop_drop]
    · rw [List.drop_zero, Nat.sub_zero]; exact hn
  · omega
  · omega
theorem St.hash {l : List UInt8} {a p : Nat} {p0 p1 : List UInt8} (h : St l 1 a p p0 p1) (hp : p < l.length) (hr : (dec (l.drop p)).1 = 35) :
    (dec (l.drop p)).2 = 1 ∧ St l 2 (p + 1) (p + 1) p0 ((l.drop a).take (p - a)) := by
  obtain ⟨h1, h2⟩ := sign_here (c := 35) (drop_ne' hp) (by decide) hr
  refine ⟨h1, Nat.le_refl _, hp, Or.inr (Or.inr ⟨rfl, ?_⟩)⟩
  have ha := h.1
  rcases h.2.2 with h | ⟨_, rfl, e, hn, hm⟩ | h
  · omega
  · have hc : cut 58 l = some (p0, l.drop a) := by
      conv => lhs; rw [e]
      exact cut_some _ hn
    have e2 : l.drop a = (l.drop a).take (p - a) ++ 35 :: l.drop (p + 1) := by
      conv => lhs; rw [← List.take_append_drop (p - a) (l.drop a)]
      rw [List.drop_drop, show a + (p - a) = p by omega, h2, List.drop_drop]
    have hc2 : cut 35 (l.drop a) = some ((l.drop a).take (p - a), l.drop (p + 1)) := by
      conv => lhs; rw [e2]
      exact cut_some _ hm
    exact sp_two hc hc2
  · omega
theorem St.next {l : List UInt8} {n a p : Nat} {p0 p1 : List UInt8} (h : St l n a p p0 p1) (hp : p < l.length) (h0 : n = 0 → (dec (l.drop p)).1 ≠ 58) (h1 : n = 1 → (dec (l.drop p)).1 ≠ 35) :
    St l n a (p + (dec (l.drop p)).2) p0 p1 := by
  have hw := next_le hp
  have ha := h.1
  refine ⟨by omega, hw.2, ?_⟩
  rcases h.2.2 with ⟨e, e2, e3, e4, hn⟩ | ⟨e, e1, e2, hn, hm⟩ | ⟨e, e2⟩
  · refine Or.inl ⟨e, e2, e3, e4, ?_⟩
    rw [take_more, List.mem_append, not_or]
    exact ⟨hn, sign_none (c := 58) (drop_ne' hp) (by decide) (h0 e)⟩
  · refine Or.inr (Or.inl ⟨e, e1, e2, hn, ?_⟩)
    rw [piece_more l ha, List.mem_append, not_or]
    exact ⟨hm, sign_none (c := 35) (drop_ne' hp) (by decide) (h1 e)⟩
  · exact Or.inr (Or.inr ⟨e, e2⟩)

theorem St.end0 {l : List UInt8} {a p : Nat} {p0 p1 : List UInt8} (h : St l 0 a p p0 p1) (hp : ¬ p < l.length) : sp l = (l.drop a, p1, []) := by
  have hl := h.2.1
  rcases h.2.2 with ⟨_, rfl, rfl, rfl, hn⟩ | h | h
  · rw [List.take_of_length_le (by omega)] at hn
    exact sp_none (cut_none hn)
  · omega
  · omega
theorem St.end1 {l : List UInt8} {a p : Nat} {p0 p1 : List UInt8} (h : St l 1 a p p0 p1) (hp : ¬ p < l.length) : sp l = (p0, l.drop a, []) := by
  have hl := h.2.1
  rcases h.2.2 with h | ⟨_, rfl, e, hn, hm⟩ | h
  · omega
  · rw [List.take_of_length_le (by rw [List.length_drop]; omega)] at hm
    have hc : cut 58 l = some (p0, l.drop a) := by
      conv => lhs; rw [e]
      exact cut_some _ hn
    exact sp_one hc (cut_none hm)
  · omega
theorem St.end2 {l : List UInt8} {a p : Nat} {p0 p1 : List UInt8} (h : St l 2 a p p0 p1) : sp l = (p0, p1, l.drop a) := by
  rcases h.2.2 with h | h | ⟨_, e⟩
  · omega
  · omega
  · exact e

/-- The pieces are no longer than the text. -/
theorem sp_len (l : List UInt8) : (sp l).1.length ≤ l.length ∧ (sp l).2.1.length ≤ l.length ∧ (sp l).2.2.length ≤ l.length := by
  cases h : cut 58 l with
  | none => rw [sp_none h]; simp
  | some x =>
    obtain ⟨t, m⟩ := x
    obtain ⟨e, _⟩ := cut_of h
    cases h2 : cut 35 m with
    | none => rw [sp_one h h2, e]; simp; omega
    | some y =>
      obtain ⟨i, r⟩ := y
      obtain ⟨e2, _⟩ := cut_of h2
      rw [sp_two h h2, e, e2]; simp; omega
end Go.Proofs.Ytbgbkhjcfchamaa.Who
