/-
  Plain mathematics of layer 7 (grammar): what is read where nothing is wrong is good, and no greater than what was taken.
-/
import Derived.Test.YtbphmaoomnocmaaDoorGrPure
namespace Go.Proofs.YtbphmaoomnocmaaDoor
open Go.RowKit
namespace Gr
open Tr (Nd none0 good goods size sizes)
open Sg (Tok kt)

/-- All words are words. -/
def Words (l : List K) : Prop := ∀ t ∈ l, t.1 = 1 → Tr.word (txt t.2) = true
theorem Words.suf {l m : List K} (h : Words l) (hs : m <:+ l) : Words m := fun t ht => h t (hs.subset ht)
/-- What a part reads where nothing is wrong. -/
structure Reads {α : Type} (G : α → Prop) (sz : α → Nat) (p : St → α × St) : Prop where
  fine : Fine p
  good : ∀ s, Words s.rest → (p s).2.err = 0 → s.err = 0 ∧ G (p s).1 ∧ sz (p s).1 + (p s).2.rest.length ≤ s.rest.length
theorem Fine.err0 {α : Type} {p : St → α × St} (h : Fine p) {s : St} (he : (p s).2.err = 0) : s.err = 0 := by
  apply Classical.byContradiction
  intro hn
  rw [h.err s hn] at he
  exact hn he
theorem fail_err {s : St} {e : Nat} (he : e ≠ 0) : (fail s e).err ≠ 0 := by
  rw [fail]; split
  · exact he
  · assumption
theorem need_good {s : St} {k : Int} (hk : k ≠ 0) (h : (need s k).err = 0) : s.err = 0 ∧ next s = k ∧ need s k = tl s ∧ (tl s).rest.length + 1 = s.rest.length := by
  rw [need] at h ⊢
  by_cases hn : next s = k
  · rw [if_pos hn] at h ⊢
    exact ⟨h, hn, rfl, tl_len (by rw [hn]; exact hk)⟩
  · rw [if_neg hn] at h
    exact absurd h (fail_err (by decide))
theorem word_reads : Reads (fun a => Tr.word a = true) (fun _ => 1) word := ⟨word_fine, fun s hw h => by
  rw [word] at h ⊢
  by_cases hn : next s = 1
  · rw [if_pos hn] at h ⊢
    obtain ⟨-, t, r, hr, ht⟩ := next_good (s := s) (by rw [hn]; decide)
    have hl := tl_len (s := s) (by rw [hn]; decide)
    refine ⟨h, ?_, by simp only; omega⟩
    rw [hr]
    exact hw t (by rw [hr]; simp) (by rw [ht, hn])
  · rw [if_neg hn] at h
    exact absurd h (fail_err (by decide))⟩
section
variable {α : Type} {G : α → Prop} {sz : α → Nat} {one : St → α × St} {k : Int}
def tot (sz : α → Nat) : List α → Nat
  | [] => 0
  | a :: l => 1 + sz a + tot sz l
theorem each_reads (h : Reads G sz one) (hk : k ≠ 0) : ∀ (f : Nat) (s : St), Words s.rest → (each one k f s).2.err = 0 → s.err = 0 ∧ (∀ a ∈ (each one k f s).1, G a) ∧ tot sz (each one k f s).1 + (each one k f s).2.rest.length ≤ s.rest.length
  | 0, s, _, he => ⟨he, by simp [each], by rw [each]; simp [tot]⟩
  | f + 1, s, hw, he => by
    rw [each] at he ⊢
    by_cases hn : next s = k
    · rw [if_pos hn] at he ⊢
      have hl := tl_len (s := s) (by rw [hn]; exact hk)
      have hw1 := hw.suf (tl_suf s)
      obtain ⟨h1, h2, h3⟩ := each_reads h hk f (one (tl s)).2 (hw1.suf (h.fine.suf _)) he
      obtain ⟨h4, h5, h6⟩ := h.good (tl s) hw1 h1
      refine ⟨h4, fun a ha => ?_, ?_⟩
      · rcases List.mem_cons.1 ha with rfl | ha
        · exact h5
        · exact h2 a ha
      · simp only [tot]
        omega
    · rw [if_neg hn] at he ⊢
      exact ⟨he, by simp, by simp [tot]⟩
theorem eachs_reads (h : Reads G sz one) (hk : k ≠ 0) : Reads (fun l => ∀ a ∈ l, G a) (tot sz) (eachs one k) := ⟨eachs_fine h.fine hk, fun s hw he => each_reads h hk _ s hw he⟩
theorem list_reads (h : Reads G sz one) (hk : k ≠ 0) : Reads (fun l => l ≠ [] ∧ ∀ a ∈ l, G a) (fun l => tot sz l - 1) (list one k) := ⟨list_fine h.fine hk, fun s hw he => by
  rw [list] at he ⊢
  obtain ⟨h1, h2, h3⟩ := (eachs_reads h hk).good (one s).2 (hw.suf (h.fine.suf _)) he
  obtain ⟨h4, h5, h6⟩ := h.good s hw h1
  refine ⟨h4, ⟨by simp, fun a ha => ?_⟩, by simp only [tot]; omega⟩
  rcases List.mem_cons.1 ha with rfl | ha
  · exact h5
  · exact h2 a ha⟩
end
abbrev NG (n : Nd) : Prop := good n = true
theorem tot_sizes : ∀ l : List Nd, tot size l = l.length + sizes l
  | [] => rfl
  | n :: l => by rw [tot, tot_sizes l, sizes, List.length_cons]; omega
theorem goods_all : ∀ {l : List Nd}, (∀ a ∈ l, good a = true) → goods l = true
  | [], _ => by rw [goods]
  | n :: l, h => by rw [goods, h n (by simp), goods_all fun a ha => h a (by simp [ha])]; rfl
theorem joined_good {k : Int} (hk : k = 4 ∨ k = 5) {l : List Nd} (hl : l ≠ []) (h : ∀ a ∈ l, good a = true) : good (joined k l) = true := by
  match l with
  | [] => exact absurd rfl hl
  | [n] => exact h n (by simp)
  | n :: m :: r =>
    rw [joined, good, goods_all h]
    · rcases hk with rfl | rfl <;> simp [Tr.fits, Tr.nil, none0]
    · rintro _ ⟨⟩
theorem joined_size {k : Int} {l : List Nd} (hl : l ≠ []) : size (joined k l) ≤ tot size l - 1 := by
  rw [tot_sizes]
  match l with
  | [] => exact absurd rfl hl
  | [n] => rw [joined]; simp [sizes]
  | n :: m :: r =>
    rw [joined, size]
    · simp only [List.length_cons]; omega
    · rintro _ ⟨⟩
abbrev Nice (p : P) : Prop := Reads NG size p
theorem atom_reads {br : P} (h : Nice br) : Nice (atomOf br) := ⟨atom_fine h.fine, fun s hw he => by
  rw [atomOf] at he ⊢
  by_cases h4 : next s = 4
  · rw [if_pos h4] at he ⊢
    have hl := tl_len (s := s) (by rw [h4]; decide)
    exact ⟨he, by show good _ = true; simp [good, goods, Tr.fits, Tr.nil, none0], by simp [size, sizes]; omega⟩
  rw [if_neg h4] at he ⊢
  by_cases h40 : next s = 40
  · rw [if_pos h40] at he ⊢
    exact h.good s hw he
  rw [if_neg h40] at he ⊢
  by_cases h5 : next (word s).2 = 5
  · rw [if_pos h5] at he ⊢
    have hl := tl_len (s := (word s).2) (by rw [h5]; decide)
    have hw1 := hw.suf (word_fine.suf s)
    obtain ⟨h1, h2, h3⟩ := word_reads.good (tl (word s).2) (hw1.suf (tl_suf _)) he
    obtain ⟨h6, h7, h8⟩ := word_reads.good s hw h1
    refine ⟨h6, ?_, by simp [size, sizes] at *; omega⟩
    show good _ = true
    simp [good, goods, Tr.fits, h2, h7]
  · rw [if_neg h5] at he ⊢
    obtain ⟨h6, h7, h8⟩ := word_reads.good s hw he
    refine ⟨h6, ?_, by simp [size, sizes] at *; omega⟩
    show good _ = true
    simp [good, goods, Tr.fits, h7, Tr.nil, none0]⟩
theorem less_reads {br : P} (h : Nice br) : Nice (lessOf br) := ⟨less_fine h.fine, fun s hw he => by
  have ha := atom_reads h
  rw [lessOf] at he ⊢
  by_cases hn : next (atomOf br s).2 = 45
  · rw [if_pos hn] at he ⊢
    have hl := tl_len (s := (atomOf br s).2) (by rw [hn]; decide)
    have hw1 := hw.suf (ha.fine.suf s)
    obtain ⟨h1, h2, h3⟩ := ha.good _ (hw1.suf (tl_suf _)) he
    obtain ⟨h4, h5, h6⟩ := ha.good s hw h1
    refine ⟨h4, ?_, by simp [size, sizes] at *; omega⟩
    show good _ = true
    have h2' : good _ = true := h2
    have h5' : good _ = true := h5
    simp [good, goods, Tr.fits, h2', h5', Tr.nil, none0]
  · rw [if_neg hn] at he ⊢
    exact ha.good s hw he⟩
theorem meet_reads {br : P} (h : Nice br) : Nice (meetOf br) := ⟨meet_fine h.fine, fun s hw he => by
  obtain ⟨h1, ⟨h2, h3⟩, h4⟩ := (list_reads (less_reads h) (k := 38) (by decide)).good s hw he
  have := joined_size (k := 5) h2
  exact ⟨h1, joined_good (.inr rfl) h2 h3, by rw [meetOf]; simp only; omega⟩⟩
theorem union_reads {br : P} (h : Nice br) : Nice (unionOf br) := ⟨union_fine h.fine, fun s hw he => by
  obtain ⟨h1, ⟨h2, h3⟩, h4⟩ := (list_reads (meet_reads h) (k := 124) (by decide)).good s hw he
  have := joined_size (k := 4) h2
  exact ⟨h1, joined_good (.inl rfl) h2 h3, by rw [unionOf]; simp only; omega⟩⟩
theorem brk_reads : ∀ d, Nice (brk d)
  | 0 => ⟨brk_fine 0, fun s _ he => absurd he (fail_err (by decide))⟩
  | d + 1 => ⟨brk_fine (d + 1), fun s hw he => by
    rw [brk] at he ⊢
    obtain ⟨h1, h2, h3, h4⟩ := need_good (by decide) he
    obtain ⟨h5, h6, h7⟩ := (union_reads (brk_reads d)).good _ (hw.suf (need_suf s 40)) h1
    obtain ⟨h8, h9, h10, h11⟩ := need_good (by decide) h5
    rw [h3]
    rw [h10] at h7 h4 h6 ⊢
    exact ⟨h8, h6, by simp only; omega⟩⟩
theorem uni_reads : Nice union := union_reads (brk_reads 8)
def AG (a : Al) : Prop := Tr.word a.ty = true ∧ (a.rel = none0 ∨ a.wild = false ∧ Tr.word a.rel = true)
theorem allow_reads : Reads AG (fun _ => 0) allow := ⟨allow_fine, fun s hw he => by
  rw [allow] at he ⊢
  by_cases h35 : next (word s).2 = 35
  · rw [if_pos h35] at he ⊢
    have hl := tl_len (s := (word s).2) (by rw [h35]; decide)
    have hw1 := hw.suf (word_fine.suf s)
    obtain ⟨h1, h2, h3⟩ := word_reads.good (tl (word s).2) (hw1.suf (tl_suf _)) he
    obtain ⟨h6, h7, h8⟩ := word_reads.good s hw h1
    exact ⟨h6, ⟨h7, .inr ⟨rfl, h2⟩⟩, by simp only; omega⟩
  rw [if_neg h35] at he ⊢
  by_cases h58 : next (word s).2 = 58
  · rw [if_pos h58] at he ⊢
    obtain ⟨h1, h2, h3, h4⟩ := need_good (by decide) he
    have hl := tl_len (s := (word s).2) (by rw [h58]; decide)
    obtain ⟨h6, h7, h8⟩ := word_reads.good s hw h1
    refine ⟨h6, ⟨h7, .inl rfl⟩, ?_⟩
    rw [h3]
    simp only; omega
  · rw [if_neg h58] at he ⊢
    obtain ⟨h6, h7, h8⟩ := word_reads.good s hw he
    exact ⟨h6, ⟨h7, .inl rfl⟩, by simp only; omega⟩⟩
theorem allows_reads : Reads (fun l => ∀ a ∈ l, AG a) (fun _ => 0) allows := ⟨allows_fine, fun s hw he => by
  rw [allows] at he ⊢
  by_cases h91 : next s = 91
  · rw [if_pos h91] at he ⊢
    obtain ⟨h1, h2, h3, h4⟩ := need_good (by decide) he
    have hl := tl_len (s := s) (by rw [h91]; decide)
    obtain ⟨h5, ⟨-, h6⟩, h7⟩ := (list_reads allow_reads (k := 44) (by decide)).good _ (hw.suf (tl_suf s)) h1
    refine ⟨h5, h6, ?_⟩
    rw [h3]
    simp only; omega
  · rw [if_neg h91] at he ⊢
    exact ⟨he, by simp, by simp⟩⟩
def RG (r : Rl) : Prop := Tr.word r.name = true ∧ good r.expr = true ∧ ∀ a ∈ r.allow, AG a
theorem rel_reads : Reads RG (fun r => size r.expr) rel := ⟨rel_fine, fun s hw he => by
  have e : rel s = (⟨(word s).1, (allows (word s).2).1, (union (need (allows (word s).2).2 61)).1⟩, need (union (need (allows (word s).2).2 61)).2 59) := rfl
  have w1 := hw.suf (word_fine.suf s)
  have w2 := w1.suf (allows_fine.suf (word s).2)
  have w3 := w2.suf (need_suf (allows (word s).2).2 61)
  have r1 := fun h => word_reads.good s hw h
  have r2 := fun h => allows_reads.good (word s).2 w1 h
  have r3 := fun h => need_good (s := (allows (word s).2).2) (k := 61) (by decide) h
  have r4 := fun h => uni_reads.good (need (allows (word s).2).2 61) w3 h
  have r5 := fun h => need_good (s := (union (need (allows (word s).2).2 61)).2) (k := 59) (by decide) h
  rw [e] at he ⊢
  clear e w1 w2 w3 hw
  generalize word s = A at *
  generalize allows A.2 = B at *
  generalize hC : need B.2 61 = C at *
  generalize union C = D at *
  generalize hE : need D.2 59 = E at *
  obtain ⟨h1, h2, h3, h4⟩ := r5 he
  obtain ⟨h5, h6, h7⟩ := r4 h1
  obtain ⟨h8, h9, h10, h11⟩ := r3 h5
  obtain ⟨h12, h13, h14⟩ := r2 h8
  obtain ⟨h15, h16, h17⟩ := r1 h12
  rw [← h10] at h11
  rw [← h3] at h4
  exact ⟨h15, ⟨h16, h6, h13⟩, by simp only; omega⟩⟩
def TG (t : Ty) : Prop := Tr.word t.name = true ∧ ∀ r ∈ t.rels, RG r
theorem typ_reads : Reads TG (fun t => tot (fun r => size r.expr) t.rels) typ := ⟨typ_fine, fun s hw he => by
  have e : typ s = (⟨(word s).1, (eachs rel 3 (need (word s).2 123)).1⟩, need (eachs rel 3 (need (word s).2 123)).2 125) := rfl
  have w1 := hw.suf (word_fine.suf s)
  have w2 := w1.suf (need_suf (word s).2 123)
  have r1 := fun h => word_reads.good s hw h
  have r2 := fun h => need_good (s := (word s).2) (k := 123) (by decide) h
  have r3 := fun h => (eachs_reads rel_reads (k := 3) (by decide)).good (need (word s).2 123) w2 h
  have r4 := fun h => need_good (s := (eachs rel 3 (need (word s).2 123)).2) (k := 125) (by decide) h
  rw [e] at he ⊢
  clear e w1 w2 hw
  generalize word s = A at *
  generalize hB : need A.2 123 = B at *
  generalize eachs rel 3 B = C at *
  generalize hD : need C.2 125 = D at *
  obtain ⟨h1, h2, h3, h4⟩ := r4 he
  obtain ⟨h5, h6, h7⟩ := r3 h1
  obtain ⟨h8, h9, h10, h11⟩ := r2 h5
  obtain ⟨h15, h16, h17⟩ := r1 h8
  rw [← h10] at h11
  rw [← h3] at h4
  exact ⟨h15, ⟨h16, h6⟩, by simp only; omega⟩⟩
theorem config_reads : Reads (fun l => ∀ t ∈ l, TG t) (tot fun t => tot (fun r => size r.expr) t.rels) config := eachs_reads typ_reads (by decide)
end Gr
end Go.Proofs.YtbphmaoomnocmaaDoor
