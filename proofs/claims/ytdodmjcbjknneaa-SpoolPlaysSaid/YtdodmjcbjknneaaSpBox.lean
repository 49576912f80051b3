/-
  Layer 13: the program's spool in memory: a box of seven cells; its ring, room, head and tail.
-/
import Derived.Test.YtdodmjcbjknneaaSpRead
import Derived.BigQuiet
namespace Go.Proofs.Ytdodmjcbjknneaa
set_option maxRecDepth 100000
open Go.RowKit
open Knot (Turns)
open Ta (IsBytes sec nul ptr IsT)
namespace Sp
abbrev tRg : TypeId := 28
abbrev tSo : TypeId := 80
/-- A spool: where its ring begins, how many sectors it has, its head, tail, epoch; was a step refused? -/
structure S where
  first : Nat
  count : Nat
  head : Nat
  tail : Nat
  epoch : Nat
  dead : Bool
def boxS (p : Nat) (s : S) : Array Value := #[.int .i64 (s.first : Int), .int .i64 (s.count : Int), ptr p, .int .i64 (s.head : Int), .int .i64 (s.tail : Int), .int .i64 (s.epoch : Int), .bool s.dead]
/-- A spool's box, upon a tray. -/
def SpB (w : World) (q p : Nat) (s : S) : Prop := w.heap[q]? = some (.cells (boxS p s) tSo (0, 0))
/-- What may stand in it. -/
structure Fits (s : S) : Prop where
  count : 2 ≤ s.count ∧ s.count ≤ 4096
  first : s.first ≤ 4096
  head : s.head ≤ s.tail
  tail : s.tail ≤ 140737488355328
  epoch : 1 ≤ s.epoch ∧ s.epoch ≤ 4294967295
section
variable {w x : World} {q p : Nat} {s : S}
theorem SpB.lt (h : SpB w q p s) : q < w.heap.size := (Array.getElem?_eq_some_iff.1 h).1
theorem SpB.on (h : SpB w q p s) (hb : Below w.heap.size w x) : SpB x q p s := (hb.block q h.lt).trans h
theorem SpB.turn {F : Nat → Prop} (h : SpB w q p s) (ht : Turns F w x) (hF : ¬ F q) : SpB x q p s := ht.heap h hF
theorem SpB.cells (h : SpB w q p s) : w.cell? ⟨q, 0, none⟩ = some (.int .i64 (s.first : Int)) ∧ w.cell? ⟨q, 1, none⟩ = some (.int .i64 (s.count : Int)) ∧ w.cell? ⟨q, 2, none⟩ = some (ptr p) ∧ w.cell? ⟨q, 3, none⟩ = some (.int .i64 (s.head : Int)) ∧
    w.cell? ⟨q, 4, none⟩ = some (.int .i64 (s.tail : Int)) ∧ w.cell? ⟨q, 5, none⟩ = some (.int .i64 (s.epoch : Int)) ∧ w.cell? ⟨q, 6, none⟩ = some (.bool s.dead) := by
  refine ⟨?_, ?_, ?_, ?_, ?_, ?_, ?_⟩ <;> (rw [Lib.cell_of_heap h]; rfl)
theorem SpB.free (h : SpB w q p s) (j : Nat) : w.frozen? ⟨q, j, none⟩ = false := Lib.frozen_of_heap h j

set_option maxHeartbeats 4000000 in
set_option maxRecDepth 100000 in
theorem of_any {n : Nat} {t : Ta.Tray (List UInt8)} {F : Nat → Prop} (f c : Int) (_hf : -9223372036854775808 ≤ f ∧ f ≤ 9223372036854775807) (hc : -9223372036854775808 ≤ c ∧ c ≤ 9223372036854775807) (h : IsT w p n t F) :
    Calls Try.prog 34 #[.agg #[.int .i64 f, .int .i64 c], ptr p] w fun e x => e = .returned (.bool (decide (2 ≤ c ∧ c ≤ 4096 ∧ 0 ≤ f ∧ f ≤ n - c))) ∧ Below w.heap.size w x := by
  have hb := (Below.refl w.heap.size w).alloc (Nat.le_refl _) (.cells #[.int .i64 f, .int .i64 c] tRg)
  have hn := h.num
  have HC := Lib.hid (fun m => Ta.sectors_any (h.below (below_drewN hb m)))
  have HB := Lib.hid hb
  clear hb h
  by_cases h1 : 2 ≤ c
  · by_cases h2 : c ≤ 4096
    · by_cases h3 : 0 ≤ f
      · have hw : IntKind.i64.wrap ((n : Int) - c) = (n : Int) - c := by rw [IntKind.wrap_i64] <;> omega
        by_cases h4 : f ≤ (n : Int) - c
        · rw [show decide (2 ≤ c ∧ c ≤ 4096 ∧ 0 ≤ f ∧ f ≤ (n : Int) - c) = true from decide_eq_true ⟨h1, h2, h3, h4⟩]
          go_enter Try.func34, Try.ntmps34
          go_wp2_with fail
          go_quiet (first | (go_at_call 45; exact Calls.quiet_of_same (HC.out _)))
          go_wp2_with fail
          go_ret
          exact ⟨rfl, below_drewN HB.out nq⟩
        · rw [show decide (2 ≤ c ∧ c ≤ 4096 ∧ 0 ≤ f ∧ f ≤ (n : Int) - c) = false from decide_eq_false fun h => h4 h.2.2.2]
          have d4 : decide (f ≤ (n : Int) - c) = false := decide_eq_false h4
          go_enter Try.func34, Try.ntmps34
          go_wp2_with fail
          go_quiet (first | (go_at_call 45; exact Calls.quiet_of_same (HC.out _)))
          go_wp2_with fail
          go_ret
          exact ⟨rfl, below_drewN HB.out nq⟩
      · rw [show decide (2 ≤ c ∧ c ≤ 4096 ∧ 0 ≤ f ∧ f ≤ (n : Int) - c) = false from decide_eq_false fun h => h3 h.2.2.1]
        have d3 : decide (0 ≤ f) = false := decide_eq_false h3
        go_enter Try.func34, Try.ntmps34
        go_wp2_with fail
        go_quiet (fail)
        go_wp2_with fail
        go_ret
        exact ⟨rfl, below_drewN HB.out nq⟩
    · rw [show decide (2 ≤ c ∧ c ≤ 4096 ∧ 0 ≤ f ∧ f ≤ (n : Int) - c) = false from decide_eq_false fun h => h2 h.2.1]
      have d2 : decide (c ≤ 4096) = false := decide_eq_false h2
      go_enter Try.func34, Try.ntmps34
      go_wp2_with fail
      go_quiet (fail)
      go_wp2_with fail
      go_ret
      exact ⟨rfl, below_drewN HB.out nq⟩
  · rw [show decide (2 ≤ c ∧ c ≤ 4096 ∧ 0 ≤ f ∧ f ≤ (n : Int) - c) = false from decide_eq_false fun h => h1 h.1]
    have d1 : decide (2 ≤ c) = false := decide_eq_false h1
    go_enter Try.func34, Try.ntmps34
    go_wp2_with fail
    go_quiet (fail)
    go_wp2_with fail
    go_ret
    exact ⟨rfl, below_drewN HB.out nq⟩
set_option maxHeartbeats 4000000 in
set_option maxRecDepth 100000 in
theorem at_any (f c k : Nat) (hc : 0 < c) (hf : f ≤ 4096) (hk : k ≤ 281474976710656) (hc2 : c ≤ 4096) (w : World) :
    Calls Try.prog 49 #[.agg #[.int .i64 (f : Int), .int .i64 (c : Int)], .int .i64 (k : Int)] w fun e x => e = .returned (.int .i64 ((f + k % c : Nat) : Int)) ∧ Below w.heap.size w x := by
  have hm : k % c < c := Nat.mod_lt _ hc
  have hr : (k : Int).tmod (c : Int) = ((k % c : Nat) : Int) := by rw [Int.tmod_eq_emod_of_nonneg (by omega)]; omega
  have hb := (Below.refl w.heap.size w).alloc (Nat.le_refl _) (.cells #[.int .i64 (f : Int), .int .i64 (c : Int)] tRg)
  have hc0 : ¬ (c : Int) = 0 := by omega
  have HB := Lib.hid hb
  clear hb
  go_enter Try.func49, Try.ntmps49
  go_wp2_with fail
  go_quiet (fail)
  go_wp2_with fail
  go_ret
  exact ⟨by simp, below_drewN HB.out nq⟩
set_option maxHeartbeats 4000000 in
set_option maxRecDepth 100000 in
theorem room_any (h : SpB w q p s) (hs : Fits s) : Calls Try.prog 27 #[ptr q] w fun e x => e = .returned (.int .i64 ((s.count : Int) - ((s.tail : Int) - (s.head : Int)))) ∧ Below w.heap.size w x := by
  obtain ⟨c0, c1, c2, c3, c4, c5, c6⟩ := h.cells
  obtain ⟨h1, h2, h3, h4, h5⟩ := hs
  have w1 : IntKind.i64.wrap ((s.tail : Int) - (s.head : Int)) = (s.tail : Int) - (s.head : Int) := by rw [IntKind.wrap_i64] <;> omega
  have w2 : IntKind.i64.wrap ((s.count : Int) - ((s.tail : Int) - (s.head : Int))) = (s.count : Int) - ((s.tail : Int) - (s.head : Int)) := by rw [IntKind.wrap_i64] <;> omega
  go_enter Try.func27, Try.ntmps27
  go_wp2_with fail
  go_quiet (fail)
  go_wp2_with fail
  go_ret
  exact ⟨rfl, below_drewN (Below.refl _ _) nq⟩
set_option maxHeartbeats 4000000 in
set_option maxRecDepth 100000 in
theorem head_any (h : SpB w q p s) : Calls Try.prog 25 #[ptr q] w fun e x => e = .returned (.int .i64 (s.head : Int)) ∧ x = w := by
  obtain ⟨c0, c1, c2, c3, c4, c5, c6⟩ := h.cells
  go_enter Try.func25, Try.ntmps25
  go_wp2_with fail
  go_ret
  exact ⟨rfl, rfl⟩
set_option maxHeartbeats 4000000 in
set_option maxRecDepth 100000 in
theorem tail_any (h : SpB w q p s) : Calls Try.prog 26 #[ptr q] w fun e x => e = .returned (.int .i64 (s.tail : Int)) ∧ x = w := by
  obtain ⟨c0, c1, c2, c3, c4, c5, c6⟩ := h.cells
  go_enter Try.func26, Try.ntmps26
  go_wp2_with fail
  go_ret
  exact ⟨rfl, rfl⟩
theorem SpB.set (h : SpB w q p s) (j : Nat) (v : Value) : (w.setCell ⟨q, j, none⟩ v).heap[q]? = some (.cells ((boxS p s).setIfInBounds j v) tSo (0, 0)) := heap_setCell_same w q j _ tSo v h
set_option maxHeartbeats 4000000 in
set_option maxRecDepth 100000 in
theorem cut_any (h : SpB w q p s) : Calls Try.prog 20 #[ptr q] w fun e x => e = .returned (.tuple #[]) ∧ Turns (fun k => k = q) w x ∧ SpB x q p { s with head := s.tail } := by
  obtain ⟨c0, c1, c2, c3, c4, c5, c6⟩ := h.cells
  have f3 := h.free 3
  have HS := Lib.hid (And.intro (turn1 w q 3 (.int .i64 (s.tail : Int))) (h.set 3 (.int .i64 (s.tail : Int))))
  clear h
  go_enter Try.func20, Try.ntmps20
  go_wp2_with fail
  go_end0
  exact ⟨rfl, HS.out.1, HS.out.2⟩
end
end Sp
end Go.Proofs.Ytdodmjcbjknneaa
