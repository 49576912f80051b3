/-
  Layer 8: what a configuration that is well made is; one that is soon gone through.
-/
import Derived.Test.YtopncohhagebbaaGreatDoorGrSameB
namespace Go.Proofs.YtopncohhagebbaaGreatDoor
open Go.RowKit
namespace Cn
open Tr (Nd size errOf)
open Gr (Al Rl Ty)

def gA (a : Al) : Bool := Tr.word a.ty && (Tr.nil a.rel || (Tr.word a.rel && !a.wild))
def gR (r : Rl) : Bool := Tr.word r.name && (errOf r.expr == 0) && r.allow.all gA
def gT (t : Ty) : Bool := Tr.word t.name && t.rels.all gR
def gC (l : List Ty) : Bool := l.all gT
theorem box3 {x : World} {R : Nat} {T : TypeId} {a b c : Value} (h : x.heap[R]? = some (.cells #[a, b, c] T (0, 0))) : x.cell? ⟨R, 0, none⟩ = some a ∧ x.cell? ⟨R, 1, none⟩ = some b ∧ x.cell? ⟨R, 2, none⟩ = some c :=
  ⟨by rw [Lib.cell_of_heap h]; rfl, by rw [Lib.cell_of_heap h]; rfl, by rw [Lib.cell_of_heap h]; rfl⟩
theorem all_at {α : Type} {p : α → Bool} {l : List α} {j : Nat} (h : j < l.length) (hj : (l.take j).all p = true) : (p l[j] = false → l.all p = false) ∧ (p l[j] = true → (l.take (j + 1)).all p = true) := by
  refine ⟨fun e => List.all_eq_false.2 ⟨l[j], List.getElem_mem h, by rw [e]; decide⟩, fun e => ?_⟩
  rw [List.take_succ_eq_append_getElem h, List.all_append, hj]
  simp [e]

def asR (l : List Rl) : Nat := (l.map fun r => r.allow.length).sum
def asC (l : List Ty) : Nat := (l.map fun t => asR t.rels).sum
def okR (r : Rl) : Bool := decide (size r.expr ≤ 300)
def okT (t : Ty) : Bool := (decide (t.rels.length = 0) || decide (t.rels.length ≤ 60)) && t.rels.all okR
def fewC (l : List Ty) : Bool := decide (asC l ≤ 300) && l.all okT && decide (l.length ≤ 30)
theorem asR_take {l : List Rl} {k : Nat} (h : k < l.length) : asR (l.take (k + 1)) = asR (l.take k) + l[k].allow.length := by
  unfold asR
  rw [List.take_succ_eq_append_getElem h, List.map_append, List.sum_append]
  simp only [List.map_cons, List.map_nil, List.sum_cons, List.sum_nil, Nat.add_zero]
theorem asR_le (l : List Rl) (k : Nat) : asR (l.take k) ≤ asR l := by
  have h : asR l = asR (l.take k) + asR (l.drop k) := by
    unfold asR
    rw [← List.sum_append, ← List.map_append, List.take_append_drop]
  omega
theorem asC_take {l : List Ty} {k : Nat} (h : k < l.length) : asC (l.take (k + 1)) = asC (l.take k) + asR l[k].rels := by
  unfold asC
  rw [List.take_succ_eq_append_getElem h, List.map_append, List.sum_append]
  simp only [List.map_cons, List.map_nil, List.sum_cons, List.sum_nil, Nat.add_zero]
theorem asC_le (l : List Ty) (k : Nat) : asC (l.take k) ≤ asC l := by
  have h : asC l = asC (l.take k) + asC (l.drop k) := by
    unfold asC
    rw [← List.sum_append, ← List.map_append, List.take_append_drop]
  omega

theorem few_parts {l : List Ty} (h : fewC l = true) : asC l ≤ 300 ∧ (∀ t ∈ l, t.rels.length ≤ 60 ∧ ∀ r ∈ t.rels, size r.expr ≤ 300) ∧ l.length ≤ 30 := by
  rw [fewC, Bool.and_eq_true, Bool.and_eq_true] at h
  refine ⟨of_decide_eq_true h.1.1, fun t ht => ?_, of_decide_eq_true h.2⟩
  have h1 := List.all_eq_true.1 h.1.2 t ht
  rw [okT, Bool.and_eq_true, Bool.or_eq_true, decide_eq_true_eq, decide_eq_true_eq] at h1
  exact ⟨by omega, fun r hr => of_decide_eq_true (List.all_eq_true.1 h1.2 r hr)⟩
theorem asR_mem : ∀ {l : List Rl} {r : Rl}, r ∈ l → r.allow.length ≤ asR l
  | b :: l, r, h => by
    have h3 : asR (b :: l) = b.allow.length + asR l := by simp [asR]
    rcases List.mem_cons.1 h with rfl | h
    · omega
    · have := asR_mem h; omega
theorem asC_mem : ∀ {l : List Ty} {t : Ty}, t ∈ l → asR t.rels ≤ asC l
  | b :: l, t, h => by
    have h3 : asC (b :: l) = asR b.rels + asC l := by simp [asC]
    rcases List.mem_cons.1 h with rfl | h
    · omega
    · have := asC_mem h; omega
theorem few_allow {l : List Ty} (h : fewC l = true) : ∀ t ∈ l, ∀ r ∈ t.rels, r.allow.length ≤ 100000 := fun t ht r hr => by
  have h1 := (few_parts h).1
  have h2 := asC_mem ht
  have h3 := asR_mem hr
  omega
end Cn
end Go.Proofs.YtopncohhagebbaaGreatDoor
