/-
  Layer 13: the program's piece: the piece on the sector of a number.
-/
import Derived.Test.YtdodmjcbjknneaaSpBox
namespace Go.Proofs.Ytdodmjcbjknneaa
set_option maxRecDepth 100000
open Go.RowKit
open Knot (Turns)
open Ta (IsBytes sec nul ptr IsT)
namespace Sp
theorem array_at (G : Nat) (W : World) : (Instr.arrayAt tSec (.slice (some ⟨G, 0, none⟩) 128 128)).run Try.prog W = .ok (.pointer (some ⟨G, 0, none⟩)) W := by kernel_rfl
/-- What a number's sector holds. -/
def rdS (t : Ta.Tray (List UInt8)) (s : S) (k : Nat) : List UInt8 := t.read nul ((s.first + k % s.count : Nat) : Int)
section
variable {w : World} {q p n : Nat} {s : S} {t : Ta.Tray (List UInt8)} {F : Nat → Prop}
theorem rdS_len (h : IsT w p n t F) (s : S) (k : Nat) : (rdS t s k).length = 128 := Ta.read_len h _
set_option maxHeartbeats 8000000 in
set_option maxRecDepth 100000 in
theorem piece_any (k : Nat) (h : SpB w q p s) (hs : Fits s) (ht : IsT w p n t F) (hn : s.first + s.count ≤ n) (hk : k ≤ 281474976710656) :
    Calls Try.prog 52 #[ptr q, .int .i64 (k : Int)] w fun e x => ∃ v, e = .returned v ∧ Told w.heap.size x (rdS t s k) v ∧ Below w.heap.size w x := by
  obtain ⟨W, hW⟩ : ∃ W, W = w.alloc (.cells (pcC 0 0 0 0 (.slice none 0 0)) tPc) := ⟨_, rfl⟩
  have hb : Below w.heap.size w W := by rw [hW]; exact (Below.refl _ _).alloc (Nat.le_refl _) _
  have hbox : PcB W w.heap.size 0 0 0 0 (.slice none 0 0) := by rw [hW]; exact heap_alloc_new w _
  have hm : k % s.count < s.count := Nat.mod_lt _ (by have := hs.count; omega)
  have HA := Lib.hid (fun x => at_any s.first s.count k (by have := hs.count; omega) hs.first hk hs.count.2 x)
  have HR := Lib.hid (show ∀ x, Below W.heap.size W x → _ from fun x hx => Ta.tread_any ((s.first + k % s.count : Nat) : Int) ((ht.below hb).below hx) (by omega) (by omega))
  have HF := Lib.hid (show ∀ x, Below W.heap.size W x → _ from fun x hx => ((h.on hb).on hx).cells)
  have HB := Lib.hid (And.intro hb (And.intro hbox (And.intro (rdS_len ht s k) hm)))
  clear hb hbox hm h hs ht hn
  go_enter Try.func52, Try.ntmps52
  go_upto_region 1 with fail
  change Code.wp _ _ _ _ (w.alloc (.cells (pcC 0 0 0 0 (.slice none 0 0)) tPc))
  rw [← hW]
  clear hW
  refine Order.region_begin (S := Order.Fresh W.drew) (by kernel_rfl) ?_
  refine Order.reads_any (idx := [0, 1, 2, 3, 4, 5, 6, 7, 8]) (by kernel_rfl) (Order.Fresh.refl _) (fun _ _ _ _ _ h => Order.noPanic_put h) 7 _ _ (by decide +kernel) ?_
  simp only [Order.pick, List.getElem?_toArray, List.getElem?_cons_zero, List.getElem?_cons_succ]
  repeat (first
    | (refine Order.reads_off (by rfl) ?_
       simp only [Act.put, List.setIfInBounds_toArray, List.set_cons_zero, List.set_cons_succ])
    | (apply Order.reads_on
       · rfl
       · intro x hx
         first
           | (go_simp; rfl)
           | (obtain ⟨c0, c1, c2, c3, c4, c5, c6⟩ := HF.out x ((Below.refl W.heap.size W).drew.trans hx)
              go_simp; rfl)
       simp only [Act.put, List.setIfInBounds_toArray, List.set_cons_zero, List.set_cons_succ]))
  refine Order.reads_end ?_
  apply Order.acts_any (R := Order.Fresh) Order.Fresh.trans (i := 9)
  · rfl
  · decide +kernel
  · rfl
  unfold Oper.wp
  go_simp
  refine (HA.out _).mono ?_
  rintro e1 x1 ⟨rfl, hb1⟩
  refine ⟨hb1, ?_⟩
  have hb1' : Below W.heap.size W x1 := (Below.refl W.heap.size W).drew.trans hb1
  apply Order.acts_any (R := Order.Fresh) Order.Fresh.trans (i := 10)
  · rfl
  · decide +kernel
  · rfl
  unfold Oper.wp
  go_simp
  refine (HR.out _ hb1').mono ?_
  rintro e2 x2 ⟨rfl, hx2, hb2⟩
  refine ⟨hb2, ?_⟩
  have hb2' : Below W.heap.size W x2 := hb1'.trans (hb2.mono hb1'.size)
  refine Order.reads_any (idx := [11, 12, 13, 14, 15]) (by kernel_rfl) (Order.Fresh.refl _) (fun _ _ _ _ _ h => Order.noPanic_put h) 0 _ _ (by decide +kernel) ?_
  simp only [Order.pick, List.getElem?_toArray, List.getElem?_cons_zero, List.getElem?_cons_succ]
  repeat (first
    | (refine Order.reads_off (by rfl) ?_
       simp only [Act.put, List.setIfInBounds_toArray, List.set_cons_zero, List.set_cons_succ])
    | (apply Order.reads_on
       · rfl
       · intro x hx
         first
           | (go_simp; rfl)
           | (fail
              go_simp; rfl)
       simp only [Act.put, List.setIfInBounds_toArray, List.set_cons_zero, List.set_cons_succ]))
  refine Order.reads_end ?_
  refine wpAnyH_done (by decide +kernel) ?_ _
  refine NoPanic.normal ?_
  have HX := Lib.hid (show Blk x2 x1.heap.size Ta.tSe (rdS t s k) ∧ PcB x2 w.heap.size 0 0 0 0 (.slice none 0 0) ∧ Below w.heap.size w x2 from ⟨hx2, HB.out.2.1.on hb2', HB.out.1.trans (hb2'.mono HB.out.1.size)⟩)
  clear hx2 hb1 hb1' hb2 hb2' HA HR HF
  have hb8 := HB.out.2.2.1
  generalize hbq : rdS t s k = b at *
  have HQ := Lib.hid hbq
  clear hbq
  generalize x1.heap.size = G at *
  have HP := Lib.hid (readPiece_any b hb8 x2)
  have h00 : ((0 : Int) != 0) = false := rfl
  have hat := array_at
  go_wp2_with (refine wpList_load_mid rfl tSec (.tmp 26) rfl G 0 rfl (Lib.byteCells b) _ (fun j v hj => by rw [Nat.zero_add, Lib.cell_of_heap HX.out.1]; simpa [sec] using hj) Try.underlying64 rfl (by rw [Lib.byteCells_length, hb8]; exact Ta.info_sec) ?_; rw [show (Lib.byteCells b).toArray = sec b from rfl])
  refine HP.out.mono ?_
  rintro e3 x3 ⟨v, rfl, hT, hb3⟩
  obtain ⟨e, n', pp, oo, vv, own, rfl, hv, hw, hr⟩ := hT
  obtain ⟨ao, cap, rfl, -⟩ := hv.now
  have hbox := HX.out.2.1.on hb3
  obtain ⟨c0, c1, c2, c3, c4⟩ := hbox.cells
  obtain ⟨f0, f1, f2, f3, f4⟩ := Ta.C5.free (T := tPc) hbox
  have HT5 := Lib.hid (And.intro (Ta.st5_turns x3 w.heap.size (.int .i64 (e : Int)) (.int .i64 (n' : Int)) (.int .i64 (pp : Int)) (.int .i64 (oo : Int)) (.slice ao own.length cap)) (Ta.C5.put (T := tPc) hbox (.int .i64 (e : Int)) (.int .i64 (n' : Int)) (.int .i64 (pp : Int)) (.int .i64 (oo : Int)) (.slice ao own.length cap)))
  have HV := Lib.hid (And.intro hv (And.intro hw (And.intro hr hb3)))
  clear hbox hv hw hr hb3 HP h00 hat
  unfold pcC
  go_wp2_with fail
  change bodyPost _ _ _ _ _ (Ta.st5 x3 w.heap.size (.int .i64 (e : Int)) (.int .i64 (n' : Int)) (.int .i64 (pp : Int)) (.int .i64 (oo : Int)) (.slice ao own.length cap))
  generalize Ta.st5 x3 w.heap.size (.int .i64 (e : Int)) (.int .i64 (n' : Int)) (.int .i64 (pp : Int)) (.int .i64 (oo : Int)) (.slice ao own.length cap) = Fin at *
  clear c0 c1 c2 c3 c4 f0 f1 f2 f3 f4
  obtain ⟨g0, g1, g2, g3, g4⟩ := Ta.C5.cells (T := tPc) HT5.out.2
  have hlt := HX.out.2.1.lt
  have hb23 := HV.out.2.2.2
  have hfin : Below w.heap.size w Fin := (HX.out.2.2.trans (hb23.mono HX.out.2.2.size)).trans (HT5.out.1.below (B := w.heap.size) (by have := HX.out.2.2.size; have := hb23.size; omega) fun k e => by omega)
  refine bodyPost_ret (v := .tuple #[.agg (pcC e n' pp oo (.slice ao own.length cap)), .bool (decide (Whole b))]) (by simp [results, Try.results52, go_sem, g0, g1, g2, g3, g4, pcC]) rfl ⟨_, rfl, by rw [HQ.out]; exact ⟨e, n', pp, oo, _, own, rfl, HV.out.1.grow (HT5.out.1.mono fun k _ e => by omega) fun k _ h => by omega, HV.out.2.1, HV.out.2.2.1⟩, hfin⟩
end
end Sp
end Go.Proofs.Ytdodmjcbjknneaa
