/-
  Layer 13: the program's spool in memory: a box of seven cells; its ring, room, head and tail.
  Layer 13: the program's piece: the piece on the sector of a number.
-/
import Derived.Test.YtkfmmdiflbnhgaaSpRead
import Derived.BigQuiet
namespace Go.Proofs.Ytkfmmdiflbnhgaa
set_option maxRecDepth 100000
open Go.RowKit
open Knot (Turns)
open Ta (IsBytes sec nul ptr IsT)
namespace Sp
abbrev tRg : TypeId := 28
abbrev tSo : TypeId := 103
/-- A spool: where its ring begins, how many sectors it has, its head, tail, epoch; was a step refused? -/
structure S where
  first : Nat
  count : Nat
  head : Nat
  tail : Nat
  epoch : Nat
  dead : Bool
def boxS (p : Nat) (s : S) : Array Value := #[.int .i64 (s.first : Int), .int .i64 (s.count : Int), ptr p, .int .i64 (s.head : Int), .int .i64 (s.tail : Int), .int .i64 (s.epoch : Int), .bool s.dead]
/-- A spool's box, upon a tray. -/
def SpB (w : World) (q p : Nat) (s : S) : Prop := w.heap[q]? = some (.cells (boxS p s) tSo (0, 0))
/-- What may stand in it. -/
structure Fits (s : S) : Prop where
  count : 2 ≤ s.count ∧ s.count ≤ 4096
  first : s.first ≤ 4096
  head : s.head ≤ s.tail
  tail : s.tail ≤ 140737488355328
  epoch : 1 ≤ s.epoch ∧ s.epoch ≤ 4294967295
section
variable {w x : World} {q p : Nat} {s : S}
theorem SpB.lt (h : SpB w q p s) : q < w.heap.size := (Array.getElem?_eq_some_iff.1 h).1
theorem SpB.on (h : SpB w q p s) (hb : Below w.heap.size w x) : SpB x q p s := (hb.block q h.lt).trans h
theorem SpB.turn {F : Nat → Prop} (h : SpB w q p s) (ht : Turns F w x) (hF : ¬ F q) : SpB x q p s := ht.heap h hF
theorem SpB.cells (h : SpB w q p s) : w.cell? ⟨q, 0, none⟩ = some (.int .i64 (s.first : Int)) ∧ w.cell? ⟨q, 1, none⟩ = some (.int .i64 (s.count : Int)) ∧ w.cell? ⟨q, 2, none⟩ = some (ptr p) ∧ w.cell? ⟨q, 3, none⟩ = some (.int .i64 (s.head : Int)) ∧
    w.cell? ⟨q, 4, none⟩ = some (.int .i64 (s.tail : Int)) ∧ w.cell? ⟨q, 5, none⟩ = some (.int .i64 (s.epoch : Int)) ∧ w.cell? ⟨q, 6, none⟩ = some (.bool s.dead) := by
  refine ⟨?_, ?_, ?_, ?_, ?_, ?_, ?_⟩ <;> (rw [Lib.cell_of_heap h]; rfl)
theorem SpB.free (h : SpB w q p s) (j : Nat) : w.frozen? ⟨q, j, none⟩ = false := Lib.frozen_of_heap h j

set_option maxHeartbeats 4000000 in
set_option maxRecDepth 100000 in
theorem of_any {n : Nat} {t : Ta.Tray (List UInt8)} {F : Nat → Prop} (f c : Int) (_hf : -9223372036854775808 ≤ f ∧ f ≤ 9223372036854775807) (hc : -9223372036854775808 ≤ c ∧ c ≤ 9223372036854775807) (h : IsT w p n t F) :
    Calls Try.prog 51 #[.agg #[.int .i64 f, .int .i64 c], ptr p] w fun e x => e = .returned (.bool (decide (2 ≤ c ∧ c ≤ 4096 ∧ 0 ≤ f ∧ f ≤ n - c))) ∧ Below w.heap.size w x := by
  have hb := (Below.refl w.heap.size w).alloc (Nat.le_refl _) (.cells #[.int .i64 f, .int .i64 c] tRg)
  have hn := h.num
  have HC := Lib.hid (fun m => Ta.sectors_any (h.below (below_drewN hb m)))
  have HB := Lib.hid hb
  clear hb h
  by_cases h1 : 2 ≤ c
  · by_cases h2 : c ≤ 4096
    · by_cases h3 : 0 ≤ f
      · have hw : IntKind.i64.wrap ((n : Int) - c) = (n : Int) - c := by rw [IntKind.wrap_i64] <;> omega
        by_cases h4 : f ≤ (n : Int) - c
        · rw [show decide (2 ≤ c ∧ c ≤ 4096 ∧ 0 ≤ f ∧ f ≤ (n : Int) - c) = true from decide_eq_true ⟨h1, h2, h3, h4⟩]
          go_enter Try.func51, Try.ntmps51
          go_wp2_with fail
          go_quiet (first | (go_at_call 76; exact Calls.quiet_of_same (HC.out _)))
          go_wp2_with fail
          go_ret
          exact ⟨rfl, below_drewN HB.out nq⟩
        · rw [show decide (2 ≤ c ∧ c ≤ 4096 ∧ 0 ≤ f ∧ f ≤ (n : Int) - c) = false from decide_eq_false fun h => h4 h.2.2.2]
          have d4 : decide (f ≤ (n : Int) - c) = false := decide_eq_false h4
          go_enter Try.func51, Try.ntmps51
          go_wp2_with fail
          go_quiet (first | (go_at_call 76; exact Calls.quiet_of_same (HC.out _)))
          go_wp2_with fail
          go_ret
          exact ⟨rfl, below_drewN HB.out nq⟩
      · rw [show decide (2 ≤ c ∧ c ≤ 4096 ∧ 0 ≤ f ∧ f ≤ (n : Int) - c) = false from decide_eq_false fun h => h3 h.2.2.1]
        have d3 : decide (0 ≤ f) = false := decide_eq_false h3
        go_enter Try.func51, Try.ntmps51
        go_wp2_with fail
        go_quiet (fail)
        go_wp2_with fail
        go_ret
        exact ⟨rfl, below_drewN HB.out nq⟩
    · rw [show decide (2 ≤ c ∧ c ≤ 4096 ∧ 0 ≤ f ∧ f ≤ (n : Int) - c) = false from decide_eq_false fun h => h2 h.2.1]
      have d2 : decide (c ≤ 4096) = false := decide_eq_false h2
      go_enter Try.func51, Try.ntmps51
      go_wp2_with fail
      go_quiet (fail)
      go_wp2_with fail
      go_ret
      exact ⟨rfl, below_drewN HB.out nq⟩
  · rw [show decide (2 ≤ c ∧ c ≤ 4096 ∧ 0 ≤ f ∧ f ≤ (n : Int) - c) = false from decide_eq_false fun h => h1 h.1]
    have d1 : decide (2 ≤ c) = false := decide_eq_false h1
    go_enter Try.func51, Try.ntmps51
    go_wp2_with fail
    go_quiet (fail)
    go_wp2_with fail
    go_ret
    exact ⟨rfl, below_drewN HB.out nq⟩
set_option maxHeartbeats 4000000 in
set_option maxRecDepth 100000 in
theorem at_any (f c k : Nat) (hc : 0 < c) (hf : f ≤ 4096) (hk : k ≤ 281474976710656) (hc2 : c ≤ 4096) (w : World) :
    Calls Try.prog 80 #[.agg #[.int .i64 (f : Int), .int .i64 (c : Int)], .int .i64 (k : Int)] w fun e x => e = .returned (.int .i64 ((f + k % c : Nat) : Int)) ∧ Below w.heap.size w x := by
  have hm : k % c < c := Nat.mod_lt _ hc
  have hr : (k : Int).tmod (c : Int) = ((k % c : Nat) : Int) := by rw [Int.tmod_eq_emod_of_nonneg (by omega)]; omega
  have hb := (Below.refl w.heap.size w).alloc (Nat.le_refl _) (.cells #[.int .i64 (f : Int), .int .i64 (c : Int)] tRg)
  have hc0 : ¬ (c : Int) = 0 := by omega
  have HB := Lib.hid hb
  clear hb
  go_enter Try.func80, Try.ntmps80
  go_wp2_with fail
  go_quiet (fail)
  go_wp2_with fail
  go_ret
  exact ⟨by simp, below_drewN HB.out nq⟩
set_option maxHeartbeats 4000000 in
set_option maxRecDepth 100000 in
theorem room_any (h : SpB w q p s) (hs : Fits s) : Calls Try.prog 32 #[ptr q] w fun e x => e = .returned (.int .i64 ((s.count : Int) - ((s.tail : Int) - (s.head : Int)))) ∧ Below w.heap.size w x := by
  obtain ⟨c0, c1, c2, c3, c4, c5, c6⟩ := h.cells
  obtain ⟨h1, h2, h3, h4, h5⟩ := hs
  have w1 : IntKind.i64.wrap ((s.tail : Int) - (s.head : Int)) = (s.tail : Int) - (s.head : Int) := by rw [IntKind.wrap_i64] <;> omega
  have w2 : IntKind.i64.wrap ((s.count : Int) - ((s.tail : Int) - (s.head : Int))) = (s.count : Int) - ((s.tail : Int) - (s.head : Int)) := by rw [IntKind.wrap_i64] <;> omega
  go_enter Try.func32, Try.ntmps32
  go_wp2_with fail
  go_quiet (fail)
  go_wp2_with fail
  go_ret
  exact ⟨rfl, below_drewN (Below.refl _ _) nq⟩
set_option maxHeartbeats 4000000 in
set_option maxRecDepth 100000 in
theorem head_any (h : SpB w q p s) : Calls Try.prog 30 #[ptr q] w fun e x => e = .returned (.int .i64 (s.head : Int)) ∧ x = w := by
  obtain ⟨c0, c1, c2, c3, c4, c5, c6⟩ := h.cells
  go_enter Try.func30, Try.ntmps30
  go_wp2_with fail
  go_ret
  exact ⟨rfl, rfl⟩
set_option maxHeartbeats 4000000 in
set_option maxRecDepth 100000 in
theorem tail_any (h : SpB w q p s) : Calls Try.prog 31 #[ptr q] w fun e x => e = .returned (.int .i64 (s.tail : Int)) ∧ x = w := by
  obtain ⟨c0, c1, c2, c3, c4, c5, c6⟩ := h.cells
  go_enter Try.func31, Try.ntmps31
  go_wp2_with fail
  go_ret
  exact ⟨rfl, rfl⟩
theorem SpB.set (h : SpB w q p s) (j : Nat) (v : Value) : (w.setCell ⟨q, j, none⟩ v).heap[q]? = some (.cells ((boxS p s).setIfInBounds j v) tSo (0, 0)) := heap_setCell_same w q j _ tSo v h
set_option maxHeartbeats 4000000 in
set_option maxRecDepth 100000 in
theorem cut_any (h : SpB w q p s) : Calls Try.prog 25 #[ptr q] w fun e x => e = .returned (.tuple #[]) ∧ Turns (fun k => k = q) w x ∧ SpB x q p { s with head := s.tail } := by
  obtain ⟨c0, c1, c2, c3, c4, c5, c6⟩ := h.cells
  have f3 := h.free 3
  have HS := Lib.hid (And.intro (turn1 w q 3 (.int .i64 (s.tail : Int))) (h.set 3 (.int .i64 (s.tail : Int))))
  clear h
  go_enter Try.func25, Try.ntmps25
  go_wp2_with fail
  go_end0
  exact ⟨rfl, HS.out.1, HS.out.2⟩
end
end Sp
end Go.Proofs.Ytkfmmdiflbnhgaa

namespace Go.Proofs.Ytkfmmdiflbnhgaa
set_option maxRecDepth 100000
open Go.RowKit
open Knot (Turns)
open Ta (IsBytes sec nul ptr IsT)
namespace Sp
theorem array_at (G : Nat) (W : World) : (Instr.arrayAt tSec (.slice (some ⟨G, 0, none⟩) 128 128)).run Try.prog W = .ok (.pointer (some ⟨G, 0, none⟩)) W := by kernel_rfl
/-- What a number's sector holds. -/
def rdS (t : Ta.Tray (List UInt8)) (s : S) (k : Nat) : List UInt8 := t.read nul ((s.first + k % s.count : Nat) : Int)
section
variable {w : World} {q p n : Nat} {s : S} {t : Ta.Tray (List UInt8)} {F : Nat → Prop}
theorem rdS_len (h : IsT w p n t F) (s : S) (k : Nat) : (rdS t s k).length = 128 := Ta.read_len h _
set_option maxHeartbeats 8000000 in
set_option maxRecDepth 100000 in
theorem piece_any (k : Nat) (h : SpB w q p s) (hs : Fits s) (ht : IsT w p n t F) (hn : s.first + s.count ≤ n) (hk : k ≤ 281474976710656) :
    Calls Try.prog 90 #[ptr q, .int .i64 (k : Int)] w fun e x => ∃ v, e = .returned v ∧ Told w.heap.size x (rdS t s k) v ∧ Below w.heap.size w x := by
  obtain ⟨W, hW⟩ : ∃ W, W = w.alloc (.cells (pcC 0 0 0 0 (.slice none 0 0)) tPc) := ⟨_, rfl⟩
  have hb : Below w.heap.size w W := by rw [hW]; exact (Below.refl _ _).alloc (Nat.le_refl _) _
  have hbox : PcB W w.heap.size 0 0 0 0 (.slice none 0 0) := by rw [hW]; exact heap_alloc_new w _
  have hm : k % s.count < s.count := Nat.mod_lt _ (by have := hs.count; omega)
  have HA := Lib.hid (fun x => at_any s.first s.count k (by have := hs.count; omega) hs.first hk hs.count.2 x)
  have HR := Lib.hid (show ∀ x, Below W.heap.size W x → _ from fun x hx => Ta.tread_any ((s.first + k % s.count : Nat) : Int) ((ht.below hb).below hx) (by omega) (by omega))
  have HF := Lib.hid (show ∀ x, Below W.heap.size W x → _ from fun x hx => ((h.on hb).on hx).cells)
  have HB := Lib.hid (And.intro hb (And.intro hbox (And.intro (rdS_len ht s k) hm)))
  clear hb hbox hm h hs ht hn
  go_enter Try.func90, Try.ntmps90
  go_upto_region 1 with fail
  change Code.wp _ _ _ _ (w.alloc (.cells (pcC 0 0 0 0 (.slice none 0 0)) tPc))
  rw [← hW]
  clear hW
  refine Order.region_begin (S := Order.Fresh W.drew) (by kernel_rfl) ?_
  refine Order.reads_any (idx := [0, 1, 2, 3, 4, 5, 6, 7, 8]) (by kernel_rfl) (Order.Fresh.refl _) (fun _ _ _ _ _ h => Order.noPanic_put h) 7 _ _ (by decide +kernel) ?_
  simp only [Order.pick, List.getElem?_toArray, List.getElem?_cons_zero, List.getElem?_cons_succ]
  repeat (first
    | (refine Order.reads_off (by rfl) ?_
       simp only [Act.put, List.setIfInBounds_toArray, List.set_cons_zero, List.set_cons_succ])
    | (apply Order.reads_on
       · rfl
       · intro x hx
         first
           | (go_simp; rfl)
           | (obtain ⟨c0, c1, c2, c3, c4, c5, c6⟩ := HF.out x ((Below.refl W.heap.size W).drew.trans hx)
              go_simp; rfl)
       simp only [Act.put, List.setIfInBounds_toArray, List.set_cons_zero, List.set_cons_succ]))
  refine Order.reads_end ?_
  apply Order.acts_any (R := Order.Fresh) Order.Fresh.trans (i := 9)
  · rfl
  · decide +kernel
  · rfl
  unfold Oper.wp
  go_simp
  refine (HA.out _).mono ?_
  rintro e1 x1 ⟨rfl, hb1⟩
  refine ⟨hb1, ?_⟩
  have hb1' : Below W.heap.size W x1 := (Below.refl W.heap.size W).drew.trans hb1
  apply Order.acts_any (R := Order.Fresh) Order.Fresh.trans (i := 10)
  · rfl
  · decide +kernel
  · rfl
  unfold Oper.wp
  go_simp
  refine (HR.out _ hb1').mono ?_
  rintro e2 x2 ⟨rfl, hx2, hb2⟩
  refine ⟨hb2, ?_⟩
  have hb2' : Below W.heap.size W x2 := hb1'.trans (hb2.mono hb1'.size)
  refine Order.reads_any (idx := [11, 12, 13, 14, 15]) (by kernel_rfl) (Order.Fresh.refl _) (fun _ _ _ _ _ h => Order.noPanic_put h) 0 _ _ (by decide +kernel) ?_
  simp only [Order.pick, List.getElem?_toArray, List.getElem?_cons_zero, List.getElem?_cons_succ]
  repeat (first
    | (refine Order.reads_off (by rfl) ?_
       simp only [Act.put, List.setIfInBounds_toArray, List.set_cons_zero, List.set_cons_succ])
    | (apply Order.reads_on
       · rfl
       · intro x hx
         first
           | (go_simp; rfl)
           | (fail
              go_simp; rfl)
       simp only [Act.put, List.setIfInBounds_toArray, List.set_cons_zero, List.set_cons_succ]))
  refine Order.reads_end ?_
  refine wpAnyH_done (by decide +kernel) ?_ _
  refine NoPanic.normal ?_
  have HX := Lib.hid (show Blk x2 x1.heap.size Ta.tSe (rdS t s k) ∧ PcB x2 w.heap.size 0 0 0 0 (.slice none 0 0) ∧ Below w.heap.size w x2 from ⟨hx2, HB.out.2.1.on hb2', HB.out.1.trans (hb2'.mono HB.out.1.size)⟩)
  clear hx2 hb1 hb1' hb2 hb2' HA HR HF
  have hb8 := HB.out.2.2.1
  generalize hbq : rdS t s k = b at *
  have HQ := Lib.hid hbq
  clear hbq
  generalize x1.heap.size = G at *
  have HP := Lib.hid (readPiece_any b hb8 x2)
  have h00 : ((0 : Int) != 0) = false := rfl
  have hat := array_at
  go_wp2_with (refine wpList_load_mid rfl tSec (.tmp 26) rfl G 0 rfl (Lib.byteCells b) _ (fun j v hj => by rw [Nat.zero_add, Lib.cell_of_heap HX.out.1]; simpa [sec] using hj) Try.underlying64 rfl (by rw [Lib.byteCells_length, hb8]; exact Ta.info_sec) ?_; rw [show (Lib.byteCells b).toArray = sec b from rfl])
  refine HP.out.mono ?_
  rintro e3 x3 ⟨v, rfl, hT, hb3⟩
  obtain ⟨e, n', pp, oo, vv, own, rfl, hv, hw, hr⟩ := hT
  obtain ⟨ao, cap, rfl, -⟩ := hv.now
  have hbox := HX.out.2.1.on hb3
  obtain ⟨c0, c1, c2, c3, c4⟩ := hbox.cells
  obtain ⟨f0, f1, f2, f3, f4⟩ := Ta.C5.free (T := tPc) hbox
  have HT5 := Lib.hid (And.intro (Ta.st5_turns x3 w.heap.size (.int .i64 (e : Int)) (.int .i64 (n' : Int)) (.int .i64 (pp : Int)) (.int .i64 (oo : Int)) (.slice ao own.length cap)) (Ta.C5.put (T := tPc) hbox (.int .i64 (e : Int)) (.int .i64 (n' : Int)) (.int .i64 (pp : Int)) (.int .i64 (oo : Int)) (.slice ao own.length cap)))
  have HV := Lib.hid (And.intro hv (And.intro hw (And.intro hr hb3)))
  clear hbox hv hw hr hb3 HP h00 hat
  unfold pcC
  go_wp2_with fail
  change bodyPost _ _ _ _ _ (Ta.st5 x3 w.heap.size (.int .i64 (e : Int)) (.int .i64 (n' : Int)) (.int .i64 (pp : Int)) (.int .i64 (oo : Int)) (.slice ao own.length cap))
  generalize Ta.st5 x3 w.heap.size (.int .i64 (e : Int)) (.int .i64 (n' : Int)) (.int .i64 (pp : Int)) (.int .i64 (oo : Int)) (.slice ao own.length cap) = Fin at *
  clear c0 c1 c2 c3 c4 f0 f1 f2 f3 f4
  obtain ⟨g0, g1, g2, g3, g4⟩ := Ta.C5.cells (T := tPc) HT5.out.2
  have hlt := HX.out.2.1.lt
  have hb23 := HV.out.2.2.2
  have hfin : Below w.heap.size w Fin := (HX.out.2.2.trans (hb23.mono HX.out.2.2.size)).trans (HT5.out.1.below (B := w.heap.size) (by have := HX.out.2.2.size; have := hb23.size; omega) fun k e => by omega)
  refine bodyPost_ret (v := .tuple #[.agg (pcC e n' pp oo (.slice ao own.length cap)), .bool (decide (Whole b))]) (by simp [results, Try.results90, go_sem, g0, g1, g2, g3, g4, pcC]) rfl ⟨_, rfl, by rw [HQ.out]; exact ⟨e, n', pp, oo, _, own, rfl, HV.out.1.grow (HT5.out.1.mono fun k _ e => by omega) fun k _ h => by omega, HV.out.2.1, HV.out.2.2.1⟩, hfin⟩
end
end Sp
end Go.Proofs.Ytkfmmdiflbnhgaa
