/-
  Layer 15: the program's tree in memory; how many it has; its count.
-/
import Derived.Test.YtldacdpejncbnaaHgPure
import Derived.Test.YtldacdpejncbnaaRows2
import Derived.Test.YtldacdpejncbnaaOrd3
import Derived.Lib.BufferMore
namespace Go.Proofs.Ytldacdpejncbnaa
open Go.RowKit
namespace Hg
open Knot (Turns NewRow)

abbrev tNd : TypeId := 62
abbrev tEn : TypeId := 46
abbrev tHd : TypeId := 57

/-- This very world. -/
def Same (w x : World) : Prop := x = w
theorem Same.refl (w : World) : Same w w := rfl
/-- Where a tree lies. -/
def loc : T → Option Addr
  | .nil => none
  | .bin b _ _ _ _ => some ⟨b, 0, none⟩
/-- A node's block. -/
def Nd (w : World) (b : Nat) (k : ByteArray) (a c : Int) (l r : Option Addr) : Prop := w.heap[b]? = some (.cells #[.string k, .int .i64 a, .int .i64 c, .pointer l, .pointer r] tNd (0, 0))
section
variable {w x : World} {b : Nat} {k : ByteArray} {a c : Int} {l r : Option Addr} {F : Nat → Prop}
theorem Nd.lt (h : Nd w b k a c l r) : b < w.heap.size := (Array.getElem?_eq_some_iff.1 h).1
theorem Nd.cells (h : Nd w b k a c l r) : w.cell? ⟨b, 0, none⟩ = some (.string k) ∧ w.cell? ⟨b, 1, none⟩ = some (.int .i64 a) ∧ w.cell? ⟨b, 2, none⟩ = some (.int .i64 c) ∧ w.cell? ⟨b, 3, none⟩ = some (.pointer l) ∧ w.cell? ⟨b, 4, none⟩ = some (.pointer r) := by
  refine ⟨?_, ?_, ?_, ?_, ?_⟩ <;> (rw [Lib.cell_of_heap h]; rfl)
theorem Nd.free (h : Nd w b k a c l r) (j : Nat) : w.frozen? ⟨b, j, none⟩ = false := Lib.frozen_of_heap h j
theorem Nd.turn (h : Nd w b k a c l r) (ht : Turns F w x) (hF : ¬ F b) : Nd x b k a c l r := ht.heap h hF
theorem turn1 (w : World) (q j : Nat) (v : Value) : Turns (fun k => k = q) w (w.setCell ⟨q, j, none⟩ v) := (Turns.refl (fun k => k = q) w).setCell (p := ⟨q, j, none⟩) rfl v
theorem Nd.num (h : Nd w b k a c l r) (v : Int) : Nd (w.setCell ⟨b, 1, none⟩ (.int .i64 v)) b k v c l r := Lib.heap_setCell_same (i := 1) h _
theorem Nd.count (h : Nd w b k a c l r) (v : Int) : Nd (w.setCell ⟨b, 2, none⟩ (.int .i64 v)) b k a v l r := Lib.heap_setCell_same (i := 2) h _
theorem Nd.setl (h : Nd w b k a c l r) (v : Option Addr) : Nd (w.setCell ⟨b, 3, none⟩ (.pointer v)) b k a c v r := Lib.heap_setCell_same (i := 3) h _
theorem Nd.setr (h : Nd w b k a c l r) (v : Option Addr) : Nd (w.setCell ⟨b, 4, none⟩ (.pointer v)) b k a c l v := Lib.heap_setCell_same (i := 4) h _
end
/-- A tree that lies in its blocks. -/
def IsT (w : World) : T → Prop
  | .nil => True
  | .bin b l k a r => Nd w b k a ((l.size : Int) + 1 + (r.size : Int)) (loc l) (loc r) ∧ IsT w l ∧ IsT w r
section
variable {w x : World} {F : Nat → Prop}
theorem IsT.lt : ∀ {t : T}, IsT w t → ∀ k ∈ t.blks, k < w.heap.size
  | .nil, _, _, h => by cases h
  | .bin b l k a r, h, q, hq => by
    rcases List.mem_cons.1 hq with rfl | hq
    · exact h.1.lt
    · rcases List.mem_append.1 hq with hq | hq
      · exact IsT.lt h.2.1 q hq
      · exact IsT.lt h.2.2 q hq
theorem IsT.turn : ∀ {t : T}, IsT w t → Turns F w x → (∀ k ∈ t.blks, ¬ F k) → IsT x t
  | .nil, _, _, _ => trivial
  | .bin b _ _ _ _, h, ht, hF => ⟨h.1.turn ht (hF b List.mem_cons_self), IsT.turn h.2.1 ht fun q hq => hF q (List.mem_cons_of_mem _ (List.mem_append_left _ hq)),
      IsT.turn h.2.2 ht fun q hq => hF q (List.mem_cons_of_mem _ (List.mem_append_right _ hq))⟩
theorem IsT.below {t : T} (h : IsT w t) (hb : Below w.heap.size w x) : IsT x t := h.turn (F := fun _ => False) (Turns.of_below hb) fun _ _ h => h
theorem IsT.drewN {t : T} (h : IsT w t) (n : Nat) : IsT (w.drewN n) t := h.below (below_drewN (Below.refl _ _) n)
theorem IsT.drew {t : T} (h : IsT w t) : IsT w.drew t := h.below ((Below.refl _ _).drew)
end

set_option maxHeartbeats 4000000 in
set_option maxRecDepth 100000 in
theorem len_any {t : T} (w : World) (h : IsT w t) : Calls Try.prog 31 #[.pointer (loc t)] w fun e x => e = .returned (.int .i64 (t.size : Int)) ∧ x = w := by
  cases t with
  | nil =>
    rw [loc]
    go_enter Try.func31, Try.ntmps31
    go_wp2_with fail
    go_ret
    exact ⟨rfl, rfl⟩
  | bin b l k a r =>
    obtain ⟨c0, c1, c2, c3, c4⟩ := h.1.cells
    clear h
    rw [loc]
    go_enter Try.func31, Try.ntmps31
    go_wp2_with fail
    go_ret
    exact ⟨rfl, rfl⟩
set_option maxHeartbeats 4000000 in
set_option maxRecDepth 100000 in
theorem weight_any {t : T} (w : World) (h : IsT w t) (hs : t.size ≤ 100000) : Calls Try.prog 45 #[.pointer (loc t)] w fun e x => e = .returned (.int .i64 ((t.size : Int) + 1)) ∧ x = w := by
  have HL := Lib.hid (len_any w h)
  clear h
  obtain ⟨n, hn⟩ : ∃ n, n = t.size := ⟨_, rfl⟩
  rw [← hn] at HL hs ⊢
  clear hn
  go_enter Try.func45, Try.ntmps45
  go_wp2_with (go_at_call 31; refine HL.out.mono ?_; rintro e x ⟨rfl, rfl⟩)
  go_ret
  exact ⟨rfl, rfl⟩
set_option maxHeartbeats 4000000 in
set_option maxRecDepth 100000 in
theorem recount_any {b : Nat} {k : ByteArray} {a c : Int} {l r : T} (w : World) (h : Nd w b k a c (loc l) (loc r)) (hl : IsT w l) (hr : IsT w r) (hs : l.size + r.size ≤ 100000) :
    Calls Try.prog 48 #[.pointer (some ⟨b, 0, none⟩)] w fun e x => e = .returned (.tuple #[]) ∧ Turns (fun q => q = b) w x ∧ Nd x b k a ((l.size : Int) + 1 + (r.size : Int)) (loc l) (loc r) := by
  obtain ⟨c0, c1, c2, c3, c4⟩ := h.cells
  have f2 := h.free 2
  have HL := Lib.hid (len_any w.drew hl.drew)
  have HR := Lib.hid (len_any w.drew hr.drew)
  have HN := Lib.hid (show Nd w.drew b k a c (loc l) (loc r) from h)
  have HW := Lib.hid (show Turns (fun q => q = b) w w.drew from Turns.of_below (Below.refl _ _).drew)
  clear h hl hr
  generalize loc l = pl at *
  generalize loc r = pr at *
  generalize l.size = nl at *
  generalize r.size = nr at *
  have w1 : IntKind.i64.wrap ((nl : Int) + 1) = (nl : Int) + 1 := by rw [IntKind.wrap_i64]; omega
  have w2 : IntKind.i64.wrap ((nl : Int) + 1 + (nr : Int)) = ((nl : Int) + 1 + (nr : Int)) := by rw [IntKind.wrap_i64] <;> omega
  have hv := ((HW.out.trans (turn1 w.drew b 2 (.int .i64 ((nl : Int) + 1 + (nr : Int)))) fun _ _ h => h))
  have hn := HN.out.count ((nl : Int) + 1 + (nr : Int))
  have HV := Lib.hid (And.intro hv hn)
  clear hv hn
  go_enter Try.func48, Try.ntmps48
  go_wp2_with fail
  refine Order.beginE (Same w.drew) [15] (by kernel_rfl) ?_
  refine Order.readsE_any (idx := [0, 1, 2, 3, 4, 7, 8, 9, 10]) (by kernel_rfl) (Same.refl _) (fun _ _ _ _ _ h => Order.noPanic_put h) 7 _ _ (by decide +kernel) ?_
  simp only [Order.pick, List.getElem?_toArray, List.getElem?_cons_zero, List.getElem?_cons_succ]
  repeat (first
    | (refine Order.reads_off (by rfl) ?_
       simp only [Act.put, List.setIfInBounds_toArray, List.set_cons_zero, List.set_cons_succ])
    | (apply Order.reads_on
       · rfl
       · intro x hx
         first
           | (unfold Same at hx
              subst hx
              go_simp; rfl)
       simp only [Act.put, List.setIfInBounds_toArray, List.set_cons_zero, List.set_cons_succ]))
  refine Order.reads_end ?_
  apply Order.actE (i := 5)
  · rfl
  · decide +kernel
  · rfl
  unfold Oper.wp
  go_simp
  refine HL.out.mono ?_
  rintro e x ⟨rfl, rfl⟩
  refine ⟨Same.refl _, ?_⟩
  refine Order.readsE_any (idx := [6]) (by kernel_rfl) (Same.refl _) (fun _ _ _ _ _ h => Order.noPanic_put h) 5 _ _ (by decide +kernel) ?_
  simp only [Order.pick, List.getElem?_toArray, List.getElem?_cons_zero, List.getElem?_cons_succ]
  repeat (first
    | (refine Order.reads_off (by rfl) ?_
       simp only [Act.put, List.setIfInBounds_toArray, List.set_cons_zero, List.set_cons_succ])
    | (apply Order.reads_on
       · rfl
       · intro x hx
         first
           | (go_simp; rfl)
           | (fail
              go_simp; rfl)
       simp only [Act.put, List.setIfInBounds_toArray, List.set_cons_zero, List.set_cons_succ]))
  refine Order.reads_end ?_
  apply Order.actE (i := 11)
  · rfl
  · decide +kernel
  · rfl
  unfold Oper.wp
  go_simp
  refine HR.out.mono ?_
  rintro e x ⟨rfl, rfl⟩
  refine ⟨Same.refl _, ?_⟩
  refine Order.readsC_any (idx := [12, 13, 14]) (by kernel_rfl) (Same.refl _) (fun _ _ _ _ _ h => Order.noPanic_put h) 1 _ _ (by decide +kernel) ?_
  simp only [Order.pick, List.getElem?_toArray, List.getElem?_cons_zero, List.getElem?_cons_succ]
  repeat (first
    | (refine Order.reads_off (by rfl) ?_
       simp only [Act.put, List.setIfInBounds_toArray, List.set_cons_zero, List.set_cons_succ])
    | (apply Order.reads_on
       · rfl
       · intro x hx
         first
           | (go_simp; rfl)
           | (fail
              go_simp; rfl)
       simp only [Act.put, List.setIfInBounds_toArray, List.set_cons_zero, List.set_cons_succ]))
  refine Order.reads_end ?_
  apply Order.lastE (i := 15)
  · rfl
  · decide +kernel
  · decide
  · rfl
  unfold Oper.wp
  go_simp
  refine Order.doneE (by decide +kernel) ?_ _
  unfold NoPanic
  go_wp2_with fail
  go_end0
  exact ⟨rfl, HV.out⟩
end Hg
end Go.Proofs.Ytldacdpejncbnaa
