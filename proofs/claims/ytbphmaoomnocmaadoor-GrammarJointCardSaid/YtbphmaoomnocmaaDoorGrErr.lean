/-
  Plain mathematics of layer 7 (grammar): which errors there are; what a text's tokens are like.
-/
import Derived.Test.YtbphmaoomnocmaaDoorGrOk
namespace Go.Proofs.YtbphmaoomnocmaaDoor
open Go.RowKit
namespace Gr
open Tr (Nd none0)
open Sg (Tok kt)

/-- A part's errors. -/
def Errs {α : Type} (p : St → α × St) : Prop := ∀ s, (p s).2.err = s.err ∨ (p s).2.err = 11 ∨ (p s).2.err = 12
section
variable {α β : Type}
theorem err_of {s : St} {a : Nat} (h : s.err = a ∨ s.err = 11 ∨ s.err = 12) {n : Nat} (hn : n = s.err ∨ n = 11 ∨ n = 12) : n = a ∨ n = 11 ∨ n = 12 := by omega
theorem fail_err' (s : St) (e : Nat) (he : e = 11 ∨ e = 12) : (fail s e).err = s.err ∨ (fail s e).err = 11 ∨ (fail s e).err = 12 := by
  rw [fail]; split
  · exact .inr he
  · exact .inl rfl
theorem need_err (s : St) (k : Int) : (need s k).err = s.err ∨ (need s k).err = 11 ∨ (need s k).err = 12 := by
  rw [need]; split
  · exact .inl rfl
  · exact fail_err' s 11 (.inl rfl)
theorem word_errs : Errs word := fun s => by
  rw [word]; split
  · exact .inl rfl
  · exact fail_err' s 11 (.inl rfl)
theorem Errs.tl {p : St → α × St} (h : Errs p) (s : St) : (p (Gr.tl s)).2.err = s.err ∨ (p (Gr.tl s)).2.err = 11 ∨ (p (Gr.tl s)).2.err = 12 := h (Gr.tl s)
theorem each_errs {one : St → α × St} (h : Errs one) (k : Int) : ∀ f, Errs (each one k f)
  | 0, s => .inl rfl
  | f + 1, s => by
    rw [each]; split
    · exact err_of (h.tl s) (each_errs h k f _)
    · exact .inl rfl
theorem eachs_errs {one : St → α × St} (h : Errs one) (k : Int) : Errs (eachs one k) := fun s => each_errs h k _ s
theorem list_errs {one : St → α × St} (h : Errs one) (k : Int) : Errs (list one k) := fun s => err_of (h s) (eachs_errs h k _)
end
theorem atom_errs {br : P} (h : Errs br) : Errs (atomOf br) := fun s => by
  rw [atomOf]; split
  · exact .inl rfl
  · split
    · exact h s
    · split
      · exact err_of (word_errs s) (word_errs.tl _)
      · exact word_errs s
theorem less_errs {br : P} (h : Errs br) : Errs (lessOf br) := fun s => by
  rw [lessOf]; split
  · exact err_of (atom_errs h s) ((atom_errs h).tl _)
  · exact atom_errs h s
theorem meet_errs {br : P} (h : Errs br) : Errs (meetOf br) := fun s => list_errs (less_errs h) 38 s
theorem union_errs {br : P} (h : Errs br) : Errs (unionOf br) := fun s => list_errs (meet_errs h) 124 s
theorem brk_errs : ∀ d, Errs (brk d)
  | 0 => fun s => fail_err' s 12 (.inr rfl)
  | d + 1 => fun s => by
    rw [brk]
    exact err_of (err_of (need_err s 40) (union_errs (brk_errs d) _)) (need_err _ 41)
theorem uni_errs : Errs union := union_errs (brk_errs 8)
theorem allow_errs : Errs allow := fun s => by
  rw [allow]; split
  · exact err_of (word_errs s) (word_errs.tl _)
  · split
    · exact err_of (word_errs s) (need_err (Gr.tl (word s).2) 42)
    · exact word_errs s
theorem allows_errs : Errs allows := fun s => by
  rw [allows]; split
  · exact err_of ((list_errs allow_errs 44).tl s) (need_err _ 93)
  · exact .inl rfl
theorem rel_errs : Errs rel := fun s => by
  have h1 := word_errs s
  have h2 := allows_errs (word s).2
  have h3 := need_err (allows (word s).2).2 61
  have h4 := uni_errs (need (allows (word s).2).2 61)
  have h5 := need_err (union (need (allows (word s).2).2 61)).2 59
  rw [rel]
  simp only
  exact err_of (err_of (err_of (err_of h1 h2) h3) h4) h5
theorem typ_errs : Errs typ := fun s => by
  have h1 := word_errs s
  have h2 := need_err (word s).2 123
  have h3 := eachs_errs rel_errs 3 (need (word s).2 123)
  have h4 := need_err (eachs rel 3 (need (word s).2 123)).2 125
  rw [typ]
  simp only
  exact err_of (err_of (err_of h1 h2) h3) h4
theorem config_errs : Errs config := eachs_errs typ_errs 2
/-- What is wrong behind all. -/
theorem fin_errs {α : Type} {p : St → α × St} (h : Errs p) (l : List K) : (fin (p ⟨l, 0⟩).2).err = 0 ∨ (fin (p ⟨l, 0⟩).2).err = 11 ∨ (fin (p ⟨l, 0⟩).2).err = 12 := by
  have h1 := h ⟨l, 0⟩
  rw [fin]; split
  · exact err_of h1 (fail_err' _ 11 (.inl rfl))
  · exact h1

/-! ### tokens -/
theorem ans_toks {o : Option (List Nat)} (h : (Sg.ans o).1 = 0) : ∃ q : List Nat, o = some q ∧ q.length ≤ 3000 ∧ (Sg.lex (1, 1) q).2.2 = true ∧ Sg.ans o = (0, (Sg.lex (1, 1) q).2.1, (Sg.lex (1, 1) q).1) ∧
    (Sg.lex (1, 1) q).1.length ≤ 6000 ∧ (∀ t ∈ (Sg.lex (1, 1) q).1, t.text.length ≤ 6000 ∧ t.kind ≠ 0) := by
  cases o with
  | none => exact absurd h (by decide)
  | some q =>
    by_cases hl : 3000 < q.length
    · rw [Sg.ans_long hl] at h; exact absurd h (by decide)
    · cases h2 : (Sg.lex (1, 1) q).2.2 with
      | true =>
        obtain ⟨h3, h4⟩ := Sg.lex_tells q.length q (1, 1) (Nat.le_refl _)
        refine ⟨q, rfl, by omega, h2, Sg.ans_ok hl h2, ?_, fun t ht => ⟨?_, (h3 t ht).2.1⟩⟩
        · have := Sg.again_len (Sg.lex (1, 1) q).1
          omega
        · have := Sg.again_mem ht
          omega
      | false => rw [Sg.ans_bad hl h2] at h; simp at h
end Gr
end Go.Proofs.YtbphmaoomnocmaaDoor
