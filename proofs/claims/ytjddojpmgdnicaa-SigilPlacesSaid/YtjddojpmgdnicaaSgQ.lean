/-
  Plain facts under SigilPlaces: where each token of a text stands, told by bytes.
-/
import Derived.Test.YtjddojpmgdnicaaSgO
import Derived.Test.YtjddojpmgdnicaaSgP
namespace Go.Proofs.Ytjddojpmgdnicaa
open Go.RowKit
namespace Sg

/-- How far the statement has come: a runes and j tokens are behind it. -/
def St (Q : List Nat) (toks : List Tok) (e : Nat × Nat) (a j : Nat) : Prop := a ≤ Q.length ∧ lex (behinds (1, 1) (Q.take a)) (Q.drop a) = (toks.drop j, e, true)

/-- A part without tokens. -/
theorem gap_ans {u : List Nat} {p : Nat × Nat} (hl : u.length ≤ 3000) (h1 : (lex p u).1 = []) (h2 : (lex p u).2.2 = true) : (ans (some u)).1 = 0 ∧ (ans (some u)).2.2 = [] := by
  have hp := lex_place u.length u p (1, 1) (Nat.le_refl _)
  rw [h1, h2] at hp
  rw [ans_zero hl hp.2.symm]
  exact ⟨rfl, kt_nil hp.1.symm⟩

theorem st_step {l : List UInt8} {Q : List Nat} {toks : List Tok} {e : Nat × Nat} {a j : Nat} (hQ : Gly.runes l = some Q) (hQ3 : Q.length ≤ 3000) (h : St Q toks e a j) (hj : j < toks.length) :
    ∃ k a', Gly.pre a l ≤ k ∧ k + toks[j].text.length ≤ l.length ∧ 1 ≤ toks[j].text.length ∧
      (∀ i, Gly.pre a l ≤ i → i < k → (l.drop i).take toks[j].text.length ≠ toks[j].text.map Nat.toUInt8 ∨ behinds (1, 1) (told (l.take i)) ≠ toks[j].at') ∧
      (l.drop k).take toks[j].text.length = toks[j].text.map Nat.toUInt8 ∧ behinds (1, 1) (told (l.take k)) = toks[j].at' ∧
      (ans (Gly.runes ((l.drop (Gly.pre a l)).take (k - Gly.pre a l)))).1 = 0 ∧ (ans (Gly.runes ((l.drop (Gly.pre a l)).take (k - Gly.pre a l)))).2.2 = [] ∧
      k + toks[j].text.length = Gly.pre a' l ∧ St Q toks e a' (j + 1) := by
  obtain ⟨ha, hx⟩ := h
  have hd : toks.drop j = toks[j] :: toks.drop (j + 1) := List.drop_eq_getElem_cons hj
  have htells := (lex_tells _ (Q.drop a) (behinds (1, 1) (Q.take a)) (Nat.le_refl _)).1
  rw [hx, hd] at htells
  rw [hd] at hx
  obtain ⟨t1, -, -, tlow, -⟩ := htells toks[j] (List.mem_cons_self ..)
  obtain ⟨g, g1, g2, g3, g4, g5, g6⟩ := lex_first _ _ _ _ _ _ (Nat.le_refl _) hx
  generalize toks[j] = t at *
  rw [List.length_drop] at g1
  have hda := Gly.runes_drop a l Q hQ
  have hkg : Gly.pre (a + g) l = Gly.pre a l + Gly.pre g (l.drop (Gly.pre a l)) := pre_add a g l
  have hdg := Gly.runes_drop (a + g) l Q hQ
  have hdrop : Q.drop (a + g) = (Q.drop a).drop g := by rw [List.drop_drop]
  have hlowq : ∀ r ∈ (Q.drop (a + g)).take t.text.length, r < 128 := by rw [hdrop, ← g5]; exact tlow
  obtain ⟨hp1, hp2⟩ := low_bytes t.text.length _ _ hdg (by rw [List.length_drop]; omega) hlowq
  have htxt : (l.drop (Gly.pre (a + g) l)).take t.text.length = t.text.map Nat.toUInt8 := by rw [hp2, hdrop, ← g5]
  have hka : Gly.pre (a + g + t.text.length) l = Gly.pre (a + g) l + t.text.length := by rw [pre_add, hp1]
  have htold : ∀ n, n ≤ Q.length → told (l.take (Gly.pre n l)) = Q.take n := fun n _ => told_runes _ _ _ (Nat.le_refl _) (Gly.runes_take n l Q hQ)
  have hplace : behinds (1, 1) (Q.take (a + g)) = t.at' := by rw [g4, behinds_add]
  refine ⟨Gly.pre (a + g) l, a + g + t.text.length, by omega, by rw [← hka]; exact Gly.pre_le _ _, t1, fun i hi1 hi2 => ?_, htxt, by rw [htold _ (by omega), hplace], ?_, ?_, by rw [hka], ?_⟩
  · have hil : i < l.length := Nat.lt_of_lt_of_le hi2 (Gly.pre_le _ _)
    rcases bound _ l Q i (Nat.le_refl _) hQ hil with ⟨j', hj', rfl⟩ | hb
    · right
      rw [htold _ (by omega), ← hplace]
      refine places_ne ?_ (by omega)
      apply Classical.byContradiction
      intro hge
      have := pre_mono l (show a + g ≤ j' by omega)
      omega
    · left
      intro he
      cases hte : t.text with
      | nil => rw [hte] at t1; simp at t1
      | cons r u =>
        have hr := tlow r (by rw [hte]; simp)
        rw [hte, List.length_cons, Gly.drop_byte hil, List.take_succ_cons, List.map_cons] at he
        have h1 := (List.cons.inj he).1
        rw [Gly.byte, h1] at hb
        have : r.toUInt8.toNat = r := by simp; omega
        omega
  · rw [hkg, Nat.add_sub_cancel_left, Gly.runes_take g _ _ hda]
    exact (gap_ans (by rw [List.length_take, List.length_drop]; omega) g2 g3).1
  · rw [hkg, Nat.add_sub_cancel_left, Gly.runes_take g _ _ hda]
    exact (gap_ans (by rw [List.length_take, List.length_drop]; omega) g2 g3).2
  · refine ⟨by omega, ?_⟩
    rw [behinds_add, List.drop_drop] at g6
    rw [Nat.add_assoc]; exact g6
theorem st_last {l : List UInt8} {Q : List Nat} {toks : List Tok} {e : Nat × Nat} {a : Nat} (hQ : Gly.runes l = some Q) (hQ3 : Q.length ≤ 3000) (h : St Q toks e a toks.length) :
    (ans (Gly.runes (l.drop (Gly.pre a l)))).1 = 0 ∧ (ans (Gly.runes (l.drop (Gly.pre a l)))).2.2 = [] := by
  obtain ⟨ha, hx⟩ := h
  rw [List.drop_length] at hx
  rw [Gly.runes_drop a l Q hQ]
  exact gap_ans (p := behinds (1, 1) (Q.take a)) (by rw [List.length_drop]; omega) (by rw [hx]) (by rw [hx])
theorem st_start {Q : List Nat} (hok : (lex (1, 1) Q).2.2 = true) : St Q (lex (1, 1) Q).1 (lex (1, 1) Q).2.1 0 0 := by
  refine ⟨Nat.zero_le _, ?_⟩
  rw [List.take_zero, List.drop_zero, List.drop_zero, behinds_nil, ← hok]
end Sg
end Go.Proofs.Ytjddojpmgdnicaa
