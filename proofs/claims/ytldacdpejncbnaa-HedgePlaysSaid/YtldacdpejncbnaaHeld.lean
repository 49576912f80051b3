/-
  Cells of new blocks, with what they hold, while nothing that was there turns.
-/
import Derived.Test.YtldacdpejncbnaaBase
namespace Go.Proofs.Ytldacdpejncbnaa
open Go.RowKit
namespace Who
/-- Cells of new blocks, with what they hold; nothing that was there has turned. -/
def Held (w : World) (L : List (Addr × Value)) (x : World) : Prop :=
  Below w.heap.size w x ∧ ∀ p ∈ L, p.1.block < x.heap.size ∧ x.cell? p.1 = some p.2 ∧ x.frozen? p.1 = false
theorem Held.below {w x : World} {L : List (Addr × Value)} (h : Held w L x) : Below w.heap.size w x := h.1
theorem Held.all {w x : World} {L : List (Addr × Value)} (h : Held w L x) : ∀ p ∈ L, p.1.block < x.heap.size ∧ x.cell? p.1 = some p.2 ∧ x.frozen? p.1 = false := h.2
theorem Held.step {w x y : World} {L : List (Addr × Value)} (hb : Below x.heap.size x y) (h : Held w L x) : Held w L y :=
  ⟨h.1.trans (hb.mono h.1.size), fun p hp => by
    obtain ⟨h1, h2, h3⟩ := h.2 p hp
    exact ⟨Nat.lt_of_lt_of_le h1 hb.size, (hb.cell h1).trans h2, (hb.frozen h1).trans h3⟩⟩
theorem Held.drew {w x : World} {L : List (Addr × Value)} (h : Held w L x) : Held w L x.drew := ⟨⟨h.1.os, h.1.tape, h.1.output, h.1.size, h.1.block⟩, h.2⟩

theorem Held.one3 (w : World) (T : TypeId) (a0 a1 a2 : Value) :
    Held w [(⟨w.heap.size, 0, none⟩, a0), (⟨w.heap.size, 1, none⟩, a1), (⟨w.heap.size, 2, none⟩, a2)] (w.alloc (.cells #[a0, a1, a2] T)) := by
  refine ⟨((Below.refl _ _).alloc (Nat.le_refl _) _), ?_⟩
  simp only [List.forall_mem_cons]
  simp
theorem Held.more3 {w x : World} {L : List (Addr × Value)} (h : Held w L x) (T : TypeId) (b0 b1 b2 : Value) :
    Held w ((⟨x.heap.size, 0, none⟩, b0) :: (⟨x.heap.size, 1, none⟩, b1) :: (⟨x.heap.size, 2, none⟩, b2) :: L) (x.alloc (.cells #[b0, b1, b2] T)) := by
  refine ⟨h.1.alloc h.1.size _, ?_⟩
  have hs := (Held.step ((Below.refl x.heap.size x).alloc (Nat.le_refl _) (.cells #[b0, b1, b2] T)) h).2
  simp only [List.forall_mem_cons]
  refine ⟨?_, ?_, ?_, hs⟩ <;> simp
theorem Held.more2 {w x : World} {L : List (Addr × Value)} (h : Held w L x) (T : TypeId) (b0 b1 : Value) :
    Held w ((⟨x.heap.size, 0, none⟩, b0) :: (⟨x.heap.size, 1, none⟩, b1) :: L) (x.alloc (.cells #[b0, b1] T)) := by
  refine ⟨h.1.alloc h.1.size _, ?_⟩
  have hs := (Held.step ((Below.refl x.heap.size x).alloc (Nat.le_refl _) (.cells #[b0, b1] T)) h).2
  simp only [List.forall_mem_cons]
  refine ⟨?_, ?_, hs⟩ <;> simp
theorem Held.one2 (w : World) (T : TypeId) (a0 a1 : Value) :
    Held w [(⟨w.heap.size, 0, none⟩, a0), (⟨w.heap.size, 1, none⟩, a1)] (w.alloc (.cells #[a0, a1] T)) := by
  refine ⟨((Below.refl _ _).alloc (Nat.le_refl _) _), ?_⟩
  simp only [List.forall_mem_cons]
  simp
end Who
end Go.Proofs.Ytldacdpejncbnaa
