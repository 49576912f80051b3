/-
  Layer 8, pure: how long a configuration's text is: of one that is soon gone through, and of one that was parsed.
-/
import Derived.Test.YtdlfbikpniionaaGreatDoorCnPrint
namespace Go.Proofs.YtdlfbikpniionaaGreatDoor
open Go.RowKit
namespace Gr
open Tr (Nd none0 good size)
open Sg (kt)

/-- A relation's bulk: what it allows, and its expression's size. -/
def szR (r : Rl) : Nat := r.allow.length + size r.expr
theorem tot_zero {α : Type} : ∀ l : List α, tot (fun _ => 0) l = l.length
  | [] => rfl
  | a :: l => by rw [tot, tot_zero l, List.length_cons]; omega
theorem tot_in {α : Type} (sz : α → Nat) : ∀ {l : List α} {a : α}, a ∈ l → sz a ≤ tot sz l
  | b :: l, a, h => by
    rw [tot]
    rcases List.mem_cons.1 h with rfl | h
    · omega
    · have := tot_in sz h; omega
theorem allows_reads2 : Reads (fun l => ∀ a ∈ l, AG a) (fun l => l.length) allows := ⟨allows_fine, fun s hw he => by
  rw [allows] at he ⊢
  by_cases h91 : next s = 91
  · rw [if_pos h91] at he ⊢
    obtain ⟨h1, h2, h3, h4⟩ := need_good (by decide) he
    have hl := tl_len (s := s) (by rw [h91]; decide)
    obtain ⟨h5, ⟨-, h6⟩, h7⟩ := (list_reads allow_reads (k := 44) (by decide)).good _ (hw.suf (tl_suf s)) h1
    refine ⟨h5, h6, ?_⟩
    rw [h3]
    simp only [tot_zero] at h7
    simp only; omega
  · rw [if_neg h91] at he ⊢
    exact ⟨he, by simp, by simp⟩⟩
theorem rel_reads2 : Reads RG szR rel := ⟨rel_fine, fun s hw he => by
  have e : rel s = (⟨(word s).1, (allows (word s).2).1, (union (need (allows (word s).2).2 61)).1⟩, need (union (need (allows (word s).2).2 61)).2 59) := rfl
  have w1 := hw.suf (word_fine.suf s)
  have w2 := w1.suf (allows_fine.suf (word s).2)
  have w3 := w2.suf (need_suf (allows (word s).2).2 61)
  have r1 := fun h => word_reads.good s hw h
  have r2 := fun h => allows_reads2.good (word s).2 w1 h
  have r3 := fun h => need_good (s := (allows (word s).2).2) (k := 61) (by decide) h
  have r4 := fun h => uni_reads.good (need (allows (word s).2).2 61) w3 h
  have r5 := fun h => need_good (s := (union (need (allows (word s).2).2 61)).2) (k := 59) (by decide) h
  rw [e] at he ⊢
  clear e w1 w2 w3 hw
  generalize word s = A at *
  generalize allows A.2 = B at *
  generalize hC : need B.2 61 = C at *
  generalize union C = D at *
  generalize hE : need D.2 59 = E at *
  obtain ⟨h1, h2, h3, h4⟩ := r5 he
  obtain ⟨h5, h6, h7⟩ := r4 h1
  obtain ⟨h8, h9, h10, h11⟩ := r3 h5
  obtain ⟨h12, h13, h14⟩ := r2 h8
  obtain ⟨h15, h16, h17⟩ := r1 h12
  rw [← h10] at h11
  rw [← h3] at h4
  exact ⟨h15, ⟨h16, h6, h13⟩, by simp only [szR] at *; omega⟩⟩
theorem typ_reads2 : Reads TG (fun t => tot szR t.rels) typ := ⟨typ_fine, fun s hw he => by
  have e : typ s = (⟨(word s).1, (eachs rel 3 (need (word s).2 123)).1⟩, need (eachs rel 3 (need (word s).2 123)).2 125) := rfl
  have w1 := hw.suf (word_fine.suf s)
  have w2 := w1.suf (need_suf (word s).2 123)
  have r1 := fun h => word_reads.good s hw h
  have r2 := fun h => need_good (s := (word s).2) (k := 123) (by decide) h
  have r3 := fun h => (eachs_reads rel_reads2 (k := 3) (by decide)).good (need (word s).2 123) w2 h
  have r4 := fun h => need_good (s := (eachs rel 3 (need (word s).2 123)).2) (k := 125) (by decide) h
  rw [e] at he ⊢
  clear e w1 w2 hw
  generalize word s = A at *
  generalize hB : need A.2 123 = B at *
  generalize eachs rel 3 B = C at *
  generalize hD : need C.2 125 = D at *
  obtain ⟨h1, h2, h3, h4⟩ := r4 he
  obtain ⟨h5, h6, h7⟩ := r3 h1
  obtain ⟨h8, h9, h10, h11⟩ := r2 h5
  obtain ⟨h15, h16, h17⟩ := r1 h8
  rw [← h10] at h11
  rw [← h3] at h4
  exact ⟨h15, ⟨h16, h6⟩, by simp only; omega⟩⟩
theorem config_reads2 : Reads (fun l => ∀ t ∈ l, TG t) (tot fun t => tot szR t.rels) config := eachs_reads typ_reads2 (by decide)
/-- What was parsed is good, and no greater than its text. -/
theorem parsed_size {s : ByteArray} (h : (parseA s).2.2 = 0) : (∀ t ∈ (parseA s).1, TG t) ∧ tot (fun t => tot szR t.rels) (parseA s).1 ≤ 6000 := by
  obtain ⟨q, hq, hl, hok, hu⟩ := parse_good h
  obtain ⟨-, h2, h3⟩ := config_reads2.good ⟨kt (Sg.lex (1, 1) q).1, 0⟩ (words_of q (1, 1)) (by rw [hu])
  rw [hu] at h2 h3
  simp only at h2 h3
  have := (Sg.lex_tells q.length q (1, 1) (Nat.le_refl _)).2
  have h4 := Sg.again_len (Sg.lex (1, 1) q).1
  rw [Sg.kt_len] at h3
  exact ⟨h2, by omega⟩
theorem prR_le {r : Rl} (h : RG r) : (prR r).length ≤ 60 * (1 + szR r) := by
  have h1 := word_len h.1
  have h2 := (node_low _ r.expr (Nat.le_refl _) h.2.1).2
  have h3 := Cn.prAl_len (l := r.allow) h.2.2
  simp only [prR, szR, List.length_append, List.length_cons, List.length_nil]
  omega
theorem rels_le : ∀ (l : List Rl), (∀ r ∈ l, RG r) → (l.flatMap prR).length ≤ 60 * tot szR l
  | [], _ => Nat.zero_le _
  | r :: l, h => by
    rw [List.flatMap_cons, List.length_append, tot]
    have h1 := prR_le (h r (by simp))
    have h2 := rels_le l fun x hx => h x (by simp [hx])
    omega
theorem prT_le {t : Ty} (h : TG t) : (prT t).length ≤ 60 * (1 + tot szR t.rels) := by
  have h1 := word_len h.1
  have h2 := rels_le t.rels h.2
  simp only [prT, List.length_append, List.length_cons, List.length_nil]
  omega
theorem prC_le : ∀ (l : List Ty), (∀ t ∈ l, TG t) → (prC l).length ≤ 60 * tot (fun t => tot szR t.rels) l
  | [], _ => Nat.zero_le _
  | t :: l, h => by
    rw [prC, List.flatMap_cons, List.length_append, tot]
    have h1 := prT_le (h t (by simp))
    have h2 := prC_le l fun x hx => h x (by simp [hx])
    rw [prC] at h2
    omega
end Gr
namespace Cn
open Tr (Nd none0 good size depth errOf)
open Gr (Al Rl Ty prC tot szR RG TG WC)
def asR (l : List Rl) : Nat := (l.map fun r => r.allow.length).sum
def asC (l : List Ty) : Nat := (l.map fun t => asR t.rels).sum
def okR (r : Rl) : Bool := decide (size r.expr ≤ 300)
def okT (t : Ty) : Bool := (decide (t.rels.length = 0) || decide (t.rels.length ≤ 60)) && t.rels.all okR
def fewC (l : List Ty) : Bool := decide (asC l ≤ 300) && l.all okT && decide (l.length ≤ 30)
theorem asR_take {l : List Rl} {k : Nat} (h : k < l.length) : asR (l.take (k + 1)) = asR (l.take k) + l[k].allow.length := by
  unfold asR
  rw [List.take_succ_eq_append_getElem h, List.map_append, List.sum_append]
  simp only [List.map_cons, List.map_nil, List.sum_cons, List.sum_nil, Nat.add_zero]
theorem asR_le (l : List Rl) (k : Nat) : asR (l.take k) ≤ asR l := by
  have h : asR l = asR (l.take k) + asR (l.drop k) := by
    unfold asR
    rw [← List.sum_append, ← List.map_append, List.take_append_drop]
  omega
theorem asC_take {l : List Ty} {k : Nat} (h : k < l.length) : asC (l.take (k + 1)) = asC (l.take k) + asR l[k].rels := by
  unfold asC
  rw [List.take_succ_eq_append_getElem h, List.map_append, List.sum_append]
  simp only [List.map_cons, List.map_nil, List.sum_cons, List.sum_nil, Nat.add_zero]
theorem asC_le (l : List Ty) (k : Nat) : asC (l.take k) ≤ asC l := by
  have h : asC l = asC (l.take k) + asC (l.drop k) := by
    unfold asC
    rw [← List.sum_append, ← List.map_append, List.take_append_drop]
  omega

theorem gC_tg {l : List Ty} (h : gC l = true) : (∀ t ∈ l, TG t) ∧ ∀ t ∈ l, ∀ r ∈ t.rels, size r.expr ≤ 24 := by
  have h0 : ∀ t ∈ l, Tr.word t.name = true ∧ ∀ r ∈ t.rels, gR r = true := fun t ht => by
    have h1 := List.all_eq_true.1 h t ht
    rw [gT, Bool.and_eq_true] at h1
    exact ⟨h1.1, fun r hr => List.all_eq_true.1 h1.2 r hr⟩
  refine ⟨fun t ht => ⟨(h0 t ht).1, fun r hr => ?_⟩, fun t ht r hr => ?_⟩
  · have h2 := gR_parts ((h0 t ht).2 r hr)
    exact ⟨h2.1, (err_zero h2.2.1).1, h2.2.2⟩
  · exact (err_zero (gR_parts ((h0 t ht).2 r hr)).2.1).2.1
theorem totR_le : ∀ (l : List Rl), (∀ r ∈ l, size r.expr ≤ 24) → tot szR l ≤ asR l + 25 * l.length
  | [], _ => Nat.zero_le _
  | r :: l, h => by
    have h1 := h r (by simp)
    have h2 := totR_le l fun x hx => h x (by simp [hx])
    have h3 : asR (r :: l) = r.allow.length + asR l := by simp [asR]
    rw [tot, h3, List.length_cons, szR]
    omega
theorem totT_le : ∀ (l : List Ty), (∀ t ∈ l, t.rels.length ≤ 60 ∧ ∀ r ∈ t.rels, size r.expr ≤ 24) → tot (fun t => tot szR t.rels) l ≤ asC l + 1501 * l.length
  | [], _ => Nat.zero_le _
  | t :: l, h => by
    have h1 := h t (by simp)
    have h2 := totT_le l fun x hx => h x (by simp [hx])
    have h3 : asC (t :: l) = asR t.rels + asC l := by simp [asC]
    have h4 := totR_le t.rels h1.2
    rw [tot, h3, List.length_cons]
    omega
theorem few_parts {l : List Ty} (h : fewC l = true) : asC l ≤ 300 ∧ (∀ t ∈ l, t.rels.length ≤ 60 ∧ ∀ r ∈ t.rels, size r.expr ≤ 300) ∧ l.length ≤ 30 := by
  rw [fewC, Bool.and_eq_true, Bool.and_eq_true] at h
  refine ⟨of_decide_eq_true h.1.1, fun t ht => ?_, of_decide_eq_true h.2⟩
  have h1 := List.all_eq_true.1 h.1.2 t ht
  rw [okT, Bool.and_eq_true, Bool.or_eq_true, decide_eq_true_eq, decide_eq_true_eq] at h1
  exact ⟨by omega, fun r hr => of_decide_eq_true (List.all_eq_true.1 h1.2 r hr)⟩
theorem asR_mem : ∀ {l : List Rl} {r : Rl}, r ∈ l → r.allow.length ≤ asR l
  | b :: l, r, h => by
    have h3 : asR (b :: l) = b.allow.length + asR l := by simp [asR]
    rcases List.mem_cons.1 h with rfl | h
    · omega
    · have := asR_mem h; omega
theorem asC_mem : ∀ {l : List Ty} {t : Ty}, t ∈ l → asR t.rels ≤ asC l
  | b :: l, t, h => by
    have h3 : asC (b :: l) = asR b.rels + asC l := by simp [asC]
    rcases List.mem_cons.1 h with rfl | h
    · omega
    · have := asC_mem h; omega
theorem few_allow {l : List Ty} (h : fewC l = true) : ∀ t ∈ l, ∀ r ∈ t.rels, r.allow.length ≤ 100000 := fun t ht r hr => by
  have h1 := (few_parts h).1
  have h2 := asC_mem ht
  have h3 := asR_mem hr
  omega
theorem few_len {l : List Ty} (h : fewC l = true) (hg : gC l = true) : (prC l).length ≤ 4000000 := by
  have h1 := few_parts h
  have h2 := gC_tg hg
  have h3 := totT_le l fun t ht => ⟨(h1.2.1 t ht).1, h2.2 t ht⟩
  have h4 := Gr.prC_le l h2.1
  have h5 := h1.1
  have h6 := h1.2.2
  omega
/-- A configuration that was parsed: its lists, its text. -/
theorem parsed_len {s : ByteArray} (h : (Gr.parseA s).2.2 = 0) : (∀ t ∈ (Gr.parseA s).1, ∀ r ∈ t.rels, r.allow.length ≤ 6000 ∧ size r.expr ≤ 6000) ∧ (prC (Gr.parseA s).1).length ≤ 400000 := by
  have h1 := Gr.parsed_size h
  have h2 := Gr.prC_le _ h1.1
  refine ⟨fun t ht r hr => ?_, by omega⟩
  have h3 := Gr.tot_in (fun t => tot szR t.rels) ht
  have h4 := Gr.tot_in szR hr
  have h5 : szR r = r.allow.length + size r.expr := rfl
  omega
end Cn
end Go.Proofs.YtdlfbikpniionaaGreatDoor
