/-
  Layer 13: the program's readPiece: the piece that stands on a sector.
-/
import Derived.Test.YtkfmmdiflbnhgaaSpSec
import Derived.Stop.BytesEq
namespace Go.Proofs.Ytkfmmdiflbnhgaa
set_option maxRecDepth 100000
open Go.RowKit
open Knot (Turns)
open Ta (IsBytes Stay sec nul)
namespace Sp
theorem eql_sec (W : World) (a b : List UInt8) (ha : a.length = 128) (hb : b.length = 128) : (binOp .eql tSec (.agg (sec a)) (.agg (sec b))).run Try.prog W = .ok (.bool (decide (a = b))) W := by
  have h := run_eql_bytes (P := Try.prog) W tSec 5 128 Try.underlying64 Try.underlying5 (fun w => by kernel_rfl) a b ha hb
  rw [show (a == b) = decide (a = b) by rw [Bool.eq_iff_iff]; simp] at h
  exact h
theorem build_pl (e n p o : Nat) (W : World) : (Instr.build tPl #[(0, .int .i64 (e : Int)), (1, .int .i64 (n : Int)), (2, .int .i64 (p : Int)), (3, .int .i64 (o : Int))]).run Try.prog W = .ok (.agg #[.int .i64 (e : Int), .int .i64 (n : Int), .int .i64 (p : Int), .int .i64 (o : Int)]) W := by kernel_rfl
/-- A box of a place. -/
def PlB (w : World) (A : Nat) (e n p o : Nat) : Prop := w.heap[A]? = some (.cells #[.int .i64 (e : Int), .int .i64 (n : Int), .int .i64 (p : Int), .int .i64 (o : Int)] tPl (0, 0))
section
variable {w x : World} {A e n p o : Nat}
theorem PlB.lt (h : PlB w A e n p o) : A < w.heap.size := (Array.getElem?_eq_some_iff.1 h).1
theorem PlB.on (h : PlB w A e n p o) (hb : Below w.heap.size w x) : PlB x A e n p o := (hb.block A h.lt).trans h
theorem PlB.turn {F : Nat → Prop} (h : PlB w A e n p o) (ht : Turns F w x) (hF : ¬ F A) : PlB x A e n p o := ht.heap h hF
theorem PlB.cells (h : PlB w A e n p o) : w.cell? ⟨A, 0, none⟩ = some (.int .i64 (e : Int)) ∧ w.cell? ⟨A, 1, none⟩ = some (.int .i64 (n : Int)) ∧ w.cell? ⟨A, 2, none⟩ = some (.int .i64 (p : Int)) ∧ w.cell? ⟨A, 3, none⟩ = some (.int .i64 (o : Int)) := by
  refine ⟨?_, ?_, ?_, ?_⟩ <;> (rw [Lib.cell_of_heap h]; rfl)
end
theorem slice3 (A sz : Nat) (h : sz ≤ 108) : ∃ q : Nat, (sz ≠ 0 → q = 16) ∧ ∀ W : World, (Instr.sliceAt tSec (.pointer (some ⟨A, 0, none⟩)) (some (.int .i64 16)) (some (.int .i64 (16 + (sz : Int)))) (some (.int .i64 (16 + (sz : Int))))).run Try.prog W = .ok (.slice (some ⟨A, q, none⟩) sz sz) W := by
  refine ⟨if sz = 0 then 0 else 16, fun h0 => if_neg h0, fun W => ?_⟩
  have hz : (sizeOf (Try.prog.elem tSec)).run Try.prog W = .ok 1 W := by kernel_rfl
  have hl : Try.prog.arrayLen tSec = 128 := by kernel_rfl
  rw [run_sliceAt_array_lhm (P := Try.prog) W tSec ⟨A, 0, none⟩ (by rw [hl]; exact Try.underlying64) .i64 .i64 .i64 16 (16 + (sz : Int)) (16 + (sz : Int)) (by omega) (by omega) (by omega) (by rw [hl]; omega), hz]
  simp only [Result.andThen_ok, slicedAt]
  have e1 : (16 + (sz : Int)).toNat = 16 + sz := by omega
  have e2 : (16 : Int).toNat = 16 := rfl
  rw [e1, e2, show 16 + sz - 16 = sz by omega]
  by_cases h0 : sz = 0
  · subst h0
    rfl
  · rw [if_neg (by omega), if_neg h0, Tr.addp]
/-- What comes of a sector: a piece; if it stands as it must: what it tells. -/
def Told (B : Nat) (x : World) (b : List UInt8) (r : Value) : Prop := ∃ (e n p o : Nat) (v : Value) (own : List UInt8), r = .tuple #[.agg (pcC e n p o v), .bool (decide (Whole b))] ∧ Stay (fun k => k < B) x (fun y => IsBytes y v own) ∧ (Whole b → e = epO b ∧ n = nuO b ∧ p = paO b ∧ o = ofO b ∧ own = owO b) ∧
  e < 281474976710656 ∧ n < 281474976710656 ∧ p < 281474976710656 ∧ o < 281474976710656 ∧ own.length ≤ 108
set_option maxHeartbeats 8000000 in
set_option maxRecDepth 100000 in
theorem readPiece_any (b : List UInt8) (hb : b.length = 128) (w : World) : Calls Try.prog 94 #[.agg (sec b)] w fun r x => ∃ v, r = .returned v ∧ Told w.heap.size x b v ∧ Below w.heap.size w x := by
  have hb8 := Ta.sec_size hb
  obtain ⟨W, hW⟩ : ∃ W, W = (w.alloc (.cells (sec b) tSec)).alloc (.cells (pcC 0 0 0 0 (.slice none 0 0)) tPc) := ⟨_, rfl⟩
  have h0 : Blk W w.heap.size tSec b ∧ PcB W (w.heap.size + 1) 0 0 0 0 (.slice none 0 0) ∧ Below w.heap.size w W ∧ W.heap.size = w.heap.size + 1 + 1 := by
    rw [hW]
    have i1 := heap_alloc_new (w.alloc (.cells (sec b) tSec)) (.cells (pcC 0 0 0 0 (.slice none 0 0)) tPc)
    rw [show (w.alloc (.cells (sec b) tSec)).heap.size = w.heap.size + 1 by simp] at i1
    exact ⟨Blk.on (w := w.alloc _) (heap_alloc_new w _) ((Below.refl _ _).alloc (Nat.le_refl _) _), i1, ((Below.refl _ _).alloc (Nat.le_refl _) _).alloc (by simp) _, by simp⟩
  have H0 := Lib.hid (And.intro h0 hb)
  have hs : szO b < 256 := szO_lt hb
  have HT := Lib.hid (show ∀ (o m cap : Nat) x, Below W.heap.size W x → o + m ≤ 128 → m ≤ 6 → m ≤ cap → cap ≤ 128 → _ from fun o m cap x hx h1 h2 h3 h4 =>
    take_any (.slice (some ⟨w.heap.size, o, none⟩) m cap) ((b.drop o).take m) x ((H0.out.1.1.on hx).bytes (by rw [H0.out.2]; exact h1) h3 (by unfold maxLen; omega)) (by rw [List.length_take]; omega))
  clear h0 hb
  have HS := Lib.hid (HT.out 15 1 113 W (Below.refl _ _) (by omega) (by omega) (by omega) (by omega))
  change Hid (Calls _ _ _ _ fun e x => e = .returned (.int .i64 (szO b : Nat)) ∧ x = W) at HS
  go_enter Try.func94, Try.ntmps94
  go_upto_region 1 with fail
  change Code.wp _ _ _ _ ((w.alloc (.cells (sec b) tSec)).alloc (.cells (pcC 0 0 0 0 (.slice none 0 0)) tPc))
  rw [← hW]
  clear hW hb8
  go_wp2_with fail
  refine HS.out.mono ?_
  rintro e x ⟨rfl, hx⟩
  rw [hx]
  clear hx x
  by_cases hsz : 108 < szO b
  · have e1 : (108 : Int) < (szO b : Nat) := by omega
    have hwf : decide (Whole b) = false := decide_eq_false fun h => by have := h.1; omega
    obtain ⟨c0, c1, c2, c3, c4⟩ := H0.out.1.2.1.cells
    have HWf := Lib.hid hwf
    obtain ⟨f0, f1, f2, f3, f4⟩ := Ta.C5.free (T := tPc) H0.out.1.2.1
    have HF := Lib.hid (And.intro (Ta.st5_turns W (w.heap.size + 1) (.int .i64 0) (.int .i64 0) (.int .i64 0) (.int .i64 0) (.slice none 0 0)) (Ta.C5.put (T := tPc) H0.out.1.2.1 (.int .i64 0) (.int .i64 0) (.int .i64 0) (.int .i64 0) (.slice none 0 0)))
    clear hwf HT HS hsz hs
    go_wp2_with fail
    change bodyPost _ _ _ _ _ (Ta.st5 W (w.heap.size + 1) (.int .i64 0) (.int .i64 0) (.int .i64 0) (.int .i64 0) (.slice none 0 0))
    generalize Ta.st5 W (w.heap.size + 1) (.int .i64 0) (.int .i64 0) (.int .i64 0) (.int .i64 0) (.slice none 0 0) = Fin at *
    clear c0 c1 c2 c3 c4 f0 f1 f2 f3 f4
    obtain ⟨g0, g1, g2, g3, g4⟩ := Ta.C5.cells (T := tPc) HF.out.2
    refine bodyPost_ret (v := .tuple #[.agg (pcC 0 0 0 0 (.slice none 0 0)), .bool false]) (by simp [results, Try.results94, go_sem, g0, g1, g2, g3, g4, pcC]) rfl ⟨_, rfl, ⟨0, 0, 0, 0, .slice none 0 0, [], by rw [HWf.out], fun _ _ => ⟨none, 0, rfl, Nat.le_refl _, Nat.zero_le _, fun h => absurd rfl h⟩, fun h => by have := HWf.out; simp [h] at this, by omega, by omega, by omega, by omega, by simp⟩, ?_⟩
    exact H0.out.1.2.2.1.trans (HF.out.1.below H0.out.1.2.2.1.size fun k e => by omega)
  · have e1 : ¬ (108 : Int) < (szO b : Nat) := by omega
    have HT1 := Lib.hid (show ∀ x, Below W.heap.size W x → Calls _ _ _ x fun e x' => e = .returned (.int .i64 (epO b : Nat)) ∧ x' = x from fun x hx => HT.out 1 4 127 x hx (by omega) (by omega) (by omega) (by omega))
    have HT2 := Lib.hid (show ∀ x, Below W.heap.size W x → Calls _ _ _ x fun e x' => e = .returned (.int .i64 (nuO b : Nat)) ∧ x' = x from fun x hx => HT.out 5 6 123 x hx (by omega) (by omega) (by omega) (by omega))
    have HT3 := Lib.hid (show ∀ x, Below W.heap.size W x → Calls _ _ _ x fun e x' => e = .returned (.int .i64 (paO b : Nat)) ∧ x' = x from fun x hx => HT.out 11 2 117 x hx (by omega) (by omega) (by omega) (by omega))
    have HT4 := Lib.hid (show ∀ x, Below W.heap.size W x → Calls _ _ _ x fun e x' => e = .returned (.int .i64 (ofO b : Nat)) ∧ x' = x from fun x hx => HT.out 13 2 115 x hx (by omega) (by omega) (by omega) (by omega))
    have HL := Lib.hid (And.intro (epO_lt H0.out.2) (And.intro (nuO_lt H0.out.2) (And.intro (paO_lt H0.out.2) (And.intro (ofO_lt H0.out.2) (owO_len H0.out.2 (by omega))))))
    obtain ⟨Wh, hWh⟩ : ∃ f : Nat → Nat → Nat → Nat → Prop, ∀ e n p o, f e n p o ↔ e = epO b ∧ n = nuO b ∧ p = paO b ∧ o = ofO b := ⟨_, fun _ _ _ _ => Iff.rfl⟩
    have HWh := Lib.hid ((hWh _ _ _ _).2 ⟨rfl, rfl, rfl, rfl⟩)
    generalize epO b = ee at HT1 HL HWh
    generalize nuO b = nn at HT2 HL HWh
    generalize paO b = pp at HT3 HL HWh
    generalize ofO b = oo at HT4 HL HWh
    have HWi := Lib.hid hWh
    clear HS HT hWh
    go_upto_region 4 with fail
    go_cut [5] (fun s5 wx => s5 = .pointer (some ⟨W.heap.size, 0, none⟩) ∧ Hid (PlB wx W.heap.size ee nn pp oo ∧ Below W.heap.size W wx))
    case first =>
      have HB0 := Lib.hid (show Below W.heap.size W W.drew from (Below.refl _ _).drew)
      have HB1 := Lib.hid (show Below W.heap.size W (W.drew.alloc (.cells #[.int .i64 0, .int .i64 0, .int .i64 0, .int .i64 0] tPl)) from (Below.refl _ _).drew.alloc (Nat.le_refl _) _)
      refine Order.beginE (fun x => Below W.heap.size W x) [10] (by kernel_rfl) ?_
      refine Order.readsE_any (idx := [0, 2, 4, 6]) (by kernel_rfl) (Below.refl _ _).drew (fun _ _ _ _ _ h => Order.noPanic_put h) 7 _ _ (by decide +kernel) ?_
      simp only [Order.pick, List.getElem?_toArray, List.getElem?_cons_zero, List.getElem?_cons_succ]
      repeat (first
        | (refine Order.reads_off (by rfl) ?_
           simp only [Act.put, List.setIfInBounds_toArray, List.set_cons_zero, List.set_cons_succ])
        | (apply Order.reads_on
           · rfl
           · intro x hx
             first
               | (go_simp; rfl)
               | (fail
                  go_simp; rfl)
           simp only [Act.put, List.setIfInBounds_toArray, List.set_cons_zero, List.set_cons_succ]))
      refine Order.reads_end ?_
      apply Order.actE2 (i := 1) (j := 9)
      · rfl
      · rfl
      · decide +kernel
      · rfl
      · rfl
      · simp only [List.getElem_toArray, List.getElem_cons_succ, List.getElem_cons_zero]
        unfold Oper.wp
        go_simp
        refine (HT1.out _ HB0.out).mono ?_
        rintro e x ⟨rfl, rfl⟩
        refine ⟨HB0.out, ?_⟩
        apply Order.actE2 (i := 3) (j := 9)
        · rfl
        · rfl
        · decide +kernel
        · rfl
        · rfl
        · simp only [List.getElem_toArray, List.getElem_cons_succ, List.getElem_cons_zero]
          unfold Oper.wp
          go_simp
          refine (HT2.out _ HB0.out).mono ?_
          rintro e x ⟨rfl, rfl⟩
          refine ⟨HB0.out, ?_⟩
          apply Order.actE2 (i := 5) (j := 9)
          · rfl
          · rfl
          · decide +kernel
          · rfl
          · rfl
          · simp only [List.getElem_toArray, List.getElem_cons_succ, List.getElem_cons_zero]
            unfold Oper.wp
            go_simp
            refine (HT3.out _ HB0.out).mono ?_
            rintro e x ⟨rfl, rfl⟩
            refine ⟨HB0.out, ?_⟩
            apply Order.actE2 (i := 7) (j := 9)
            · rfl
            · rfl
            · decide +kernel
            · rfl
            · rfl
            · simp only [List.getElem_toArray, List.getElem_cons_succ, List.getElem_cons_zero]
              unfold Oper.wp
              go_simp
              refine (HT4.out _ HB0.out).mono ?_
              rintro e x ⟨rfl, rfl⟩
              refine ⟨HB0.out, ?_⟩
              refine Order.readsE_any (idx := [8]) (by kernel_rfl) HB0.out (fun _ _ _ _ _ h => Order.noPanic_put h) 2 _ _ (by decide +kernel) ?_
              simp only [Order.pick, List.getElem?_toArray, List.getElem?_cons_zero, List.getElem?_cons_succ]
              repeat (first
                | (refine Order.reads_off (by rfl) ?_
                   simp only [Act.put, List.setIfInBounds_toArray, List.set_cons_zero, List.set_cons_succ])
                | (apply Order.reads_on
                   · rfl
                   · intro x hx
                     first
                       | (go_simp; rfl)
                       | (fail
                          go_simp; rfl)
                   simp only [Act.put, List.setIfInBounds_toArray, List.set_cons_zero, List.set_cons_succ]))
              refine Order.reads_end ?_
              apply Order.actE (i := 9)
              · rfl
              · decide +kernel
              · rfl
              simp only [List.getElem_toArray, List.getElem_cons_succ, List.getElem_cons_zero]
              unfold Oper.wp
              go_simp
              refine ⟨HB1.out, ?_⟩
              apply Order.lastE (i := 10)
              · rfl
              · decide +kernel
              · decide
              · rfl
              unfold Oper.wp
              go_simp
              refine Order.doneE (by decide +kernel) ?_ _
              refine NoPanic.normal ?_
              go_wp2_with fail
              go_meet
              case rel => exact ⟨rfl, Lib.hid ⟨heap_alloc_new W _, ((Below.refl _ _).alloc (Nat.le_refl _) _).drew⟩⟩
            · simp only [List.getElem_toArray, List.getElem_cons_succ, List.getElem_cons_zero]
              unfold Oper.wp
              go_simp
              refine ⟨HB1.out, ?_⟩
              apply Order.actE (i := 7)
              · rfl
              · decide +kernel
              · rfl
              simp only [List.getElem_toArray, List.getElem_cons_succ, List.getElem_cons_zero]
              unfold Oper.wp
              go_simp
              refine (HT4.out _ HB1.out).mono ?_
              rintro e x ⟨rfl, rfl⟩
              refine ⟨HB1.out, ?_⟩
              refine Order.readsE_any (idx := [8]) (by kernel_rfl) HB1.out (fun _ _ _ _ _ h => Order.noPanic_put h) 1 _ _ (by decide +kernel) ?_
              simp only [Order.pick, List.getElem?_toArray, List.getElem?_cons_zero, List.getElem?_cons_succ]
              repeat (first
                | (refine Order.reads_off (by rfl) ?_
                   simp only [Act.put, List.setIfInBounds_toArray, List.set_cons_zero, List.set_cons_succ])
                | (apply Order.reads_on
                   · rfl
                   · intro x hx
                     first
                       | (go_simp; rfl)
                       | (fail
                          go_simp; rfl)
                   simp only [Act.put, List.setIfInBounds_toArray, List.set_cons_zero, List.set_cons_succ]))
              refine Order.reads_end ?_
              apply Order.lastE (i := 10)
              · rfl
              · decide +kernel
              · decide
              · rfl
              unfold Oper.wp
              go_simp
              refine Order.doneE (by decide +kernel) ?_ _
              refine NoPanic.normal ?_
              go_wp2_with fail
              go_meet
              case rel => exact ⟨rfl, Lib.hid ⟨heap_alloc_new W _, ((Below.refl _ _).alloc (Nat.le_refl _) _).drew⟩⟩
          · simp only [List.getElem_toArray, List.getElem_cons_succ, List.getElem_cons_zero]
            unfold Oper.wp
            go_simp
            refine ⟨HB1.out, ?_⟩
            apply Order.actE (i := 5)
            · rfl
            · decide +kernel
            · rfl
            simp only [List.getElem_toArray, List.getElem_cons_succ, List.getElem_cons_zero]
            unfold Oper.wp
            go_simp
            refine (HT3.out _ HB1.out).mono ?_
            rintro e x ⟨rfl, rfl⟩
            refine ⟨HB1.out, ?_⟩
            apply Order.actE (i := 7)
            · rfl
            · decide +kernel
            · rfl
            simp only [List.getElem_toArray, List.getElem_cons_succ, List.getElem_cons_zero]
            unfold Oper.wp
            go_simp
            refine (HT4.out _ HB1.out).mono ?_
            rintro e x ⟨rfl, rfl⟩
            refine ⟨HB1.out, ?_⟩
            refine Order.readsE_any (idx := [8]) (by kernel_rfl) HB1.out (fun _ _ _ _ _ h => Order.noPanic_put h) 1 _ _ (by decide +kernel) ?_
            simp only [Order.pick, List.getElem?_toArray, List.getElem?_cons_zero, List.getElem?_cons_succ]
            repeat (first
              | (refine Order.reads_off (by rfl) ?_
                 simp only [Act.put, List.setIfInBounds_toArray, List.set_cons_zero, List.set_cons_succ])
              | (apply Order.reads_on
                 · rfl
                 · intro x hx
                   first
                     | (go_simp; rfl)
                     | (fail
                        go_simp; rfl)
                 simp only [Act.put, List.setIfInBounds_toArray, List.set_cons_zero, List.set_cons_succ]))
            refine Order.reads_end ?_
            apply Order.lastE (i := 10)
            · rfl
            · decide +kernel
            · decide
            · rfl
            unfold Oper.wp
            go_simp
            refine Order.doneE (by decide +kernel) ?_ _
            refine NoPanic.normal ?_
            go_wp2_with fail
            go_meet
            case rel => exact ⟨rfl, Lib.hid ⟨heap_alloc_new W _, ((Below.refl _ _).alloc (Nat.le_refl _) _).drew⟩⟩
        · simp only [List.getElem_toArray, List.getElem_cons_succ, List.getElem_cons_zero]
          unfold Oper.wp
          go_simp
          refine ⟨HB1.out, ?_⟩
          apply Order.actE (i := 3)
          · rfl
          · decide +kernel
          · rfl
          simp only [List.getElem_toArray, List.getElem_cons_succ, List.getElem_cons_zero]
          unfold Oper.wp
          go_simp
          refine (HT2.out _ HB1.out).mono ?_
          rintro e x ⟨rfl, rfl⟩
          refine ⟨HB1.out, ?_⟩
          apply Order.actE (i := 5)
          · rfl
          · decide +kernel
          · rfl
          simp only [List.getElem_toArray, List.getElem_cons_succ, List.getElem_cons_zero]
          unfold Oper.wp
          go_simp
          refine (HT3.out _ HB1.out).mono ?_
          rintro e x ⟨rfl, rfl⟩
          refine ⟨HB1.out, ?_⟩
          apply Order.actE (i := 7)
          · rfl
          · decide +kernel
          · rfl
          simp only [List.getElem_toArray, List.getElem_cons_succ, List.getElem_cons_zero]
          unfold Oper.wp
          go_simp
          refine (HT4.out _ HB1.out).mono ?_
          rintro e x ⟨rfl, rfl⟩
          refine ⟨HB1.out, ?_⟩
          refine Order.readsE_any (idx := [8]) (by kernel_rfl) HB1.out (fun _ _ _ _ _ h => Order.noPanic_put h) 1 _ _ (by decide +kernel) ?_
          simp only [Order.pick, List.getElem?_toArray, List.getElem?_cons_zero, List.getElem?_cons_succ]
          repeat (first
            | (refine Order.reads_off (by rfl) ?_
               simp only [Act.put, List.setIfInBounds_toArray, List.set_cons_zero, List.set_cons_succ])
            | (apply Order.reads_on
               · rfl
               · intro x hx
                 first
                   | (go_simp; rfl)
                   | (fail
                      go_simp; rfl)
               simp only [Act.put, List.setIfInBounds_toArray, List.set_cons_zero, List.set_cons_succ]))
          refine Order.reads_end ?_
          apply Order.lastE (i := 10)
          · rfl
          · decide +kernel
          · decide
          · rfl
          unfold Oper.wp
          go_simp
          refine Order.doneE (by decide +kernel) ?_ _
          refine NoPanic.normal ?_
          go_wp2_with fail
          go_meet
          case rel => exact ⟨rfl, Lib.hid ⟨heap_alloc_new W _, ((Below.refl _ _).alloc (Nat.le_refl _) _).drew⟩⟩
      · simp only [List.getElem_toArray, List.getElem_cons_succ, List.getElem_cons_zero]
        unfold Oper.wp
        go_simp
        refine ⟨HB1.out, ?_⟩
        apply Order.actE (i := 1)
        · rfl
        · decide +kernel
        · rfl
        simp only [List.getElem_toArray, List.getElem_cons_succ, List.getElem_cons_zero]
        unfold Oper.wp
        go_simp
        refine (HT1.out _ HB1.out).mono ?_
        rintro e x ⟨rfl, rfl⟩
        refine ⟨HB1.out, ?_⟩
        apply Order.actE (i := 3)
        · rfl
        · decide +kernel
        · rfl
        simp only [List.getElem_toArray, List.getElem_cons_succ, List.getElem_cons_zero]
        unfold Oper.wp
        go_simp
        refine (HT2.out _ HB1.out).mono ?_
        rintro e x ⟨rfl, rfl⟩
        refine ⟨HB1.out, ?_⟩
        apply Order.actE (i := 5)
        · rfl
        · decide +kernel
        · rfl
        simp only [List.getElem_toArray, List.getElem_cons_succ, List.getElem_cons_zero]
        unfold Oper.wp
        go_simp
        refine (HT3.out _ HB1.out).mono ?_
        rintro e x ⟨rfl, rfl⟩
        refine ⟨HB1.out, ?_⟩
        apply Order.actE (i := 7)
        · rfl
        · decide +kernel
        · rfl
        simp only [List.getElem_toArray, List.getElem_cons_succ, List.getElem_cons_zero]
        unfold Oper.wp
        go_simp
        refine (HT4.out _ HB1.out).mono ?_
        rintro e x ⟨rfl, rfl⟩
        refine ⟨HB1.out, ?_⟩
        refine Order.readsE_any (idx := [8]) (by kernel_rfl) HB1.out (fun _ _ _ _ _ h => Order.noPanic_put h) 1 _ _ (by decide +kernel) ?_
        simp only [Order.pick, List.getElem?_toArray, List.getElem?_cons_zero, List.getElem?_cons_succ]
        repeat (first
          | (refine Order.reads_off (by rfl) ?_
             simp only [Act.put, List.setIfInBounds_toArray, List.set_cons_zero, List.set_cons_succ])
          | (apply Order.reads_on
             · rfl
             · intro x hx
               first
                 | (go_simp; rfl)
                 | (fail
                    go_simp; rfl)
             simp only [Act.put, List.setIfInBounds_toArray, List.set_cons_zero, List.set_cons_succ]))
        refine Order.reads_end ?_
        apply Order.lastE (i := 10)
        · rfl
        · decide +kernel
        · decide
        · rfl
        unfold Oper.wp
        go_simp
        refine Order.doneE (by decide +kernel) ?_ _
        refine NoPanic.normal ?_
        go_wp2_with fail
        go_meet
        case rel => exact ⟨rfl, Lib.hid ⟨heap_alloc_new W _, ((Below.refl _ _).alloc (Nat.le_refl _) _).drew⟩⟩
    case rest =>
      obtain ⟨rfl, HC⟩ := hcut
      have hB := HC.out.2
      have HX := Lib.hid (show Below w.heap.size w wc ∧ Blk wc w.heap.size tSec b ∧ PcB wc (w.heap.size + 1) 0 0 0 0 (.slice none 0 0) ∧ PlB wc W.heap.size ee nn pp oo from ⟨H0.out.1.2.2.1.trans (hB.mono H0.out.1.2.2.1.size), H0.out.1.1.on hB, H0.out.1.2.1.on hB, HC.out.1⟩)
      have HNe := Lib.hid (show W.heap.size = w.heap.size + 1 + 1 ∧ W.heap.size < wc.heap.size from ⟨H0.out.1.2.2.2, HC.out.1.lt⟩)
      have hsz' : szO b ≤ 108 := by omega
      have HB := Lib.hid (And.intro (And.intro H0.out.2 hsz') rfl : Hid ((b.length = 128 ∧ szO b ≤ 108) ∧ owO b = (b.drop 16).take (szO b)))
      have HSz := Lib.hid hsz'
      clear hB HC H0 HT1 HT2 HT3 HT4 e1 hsz hs
      generalize hszq : szO b = sz at hsz' HB HL ⊢
      clear hszq
      have HF := Lib.hid (show ∀ x, Below wc.heap.size wc x → _ from fun x hx => (HX.out.2.2.2.on hx).cells)
      go_upto_region 5 with fail
      obtain ⟨q, hq, hsl⟩ := slice3 w.heap.size sz hsz'
      have hw : IntKind.i64.wrap (16 + (sz : Int)) = 16 + (sz : Int) := by rw [IntKind.wrap_i64] <;> omega
      have HQ := Lib.hid hq
      clear hq
      refine Order.beginE (fun x => Below wc.heap.size wc x) [8] (by kernel_rfl) ?_
      refine Order.readsE_any (idx := [0, 1, 2, 3, 4, 5, 6]) (by kernel_rfl) (Below.refl _ _).drew (fun _ _ _ _ _ h => Order.noPanic_put h) 2 _ _ (by decide +kernel) ?_
      simp only [Order.pick, List.getElem?_toArray, List.getElem?_cons_zero, List.getElem?_cons_succ]
      repeat (first
        | (refine Order.reads_off (by rfl) ?_
           simp only [Act.put, List.setIfInBounds_toArray, List.set_cons_zero, List.set_cons_succ])
        | (apply Order.reads_on
           · rfl
           · intro x hx
             first
               | (obtain ⟨c0, c1, c2, c3⟩ := HF.out x hx
                  exact Order.load_at rfl rfl (by assumption))
               | (go_simp; rfl)
               | (obtain ⟨c0, c1, c2, c3⟩ := HF.out x hx
                  go_simp; rfl)
           simp only [Act.put, List.setIfInBounds_toArray, List.set_cons_zero, List.set_cons_succ]))
      refine Order.reads_end ?_
      apply Order.actE (i := 7)
      · rfl
      · decide +kernel
      · rfl
      simp only [List.getElem_toArray, List.getElem_cons_succ, List.getElem_cons_zero]
      unfold Oper.wp
      go_simp
      have hb0 : Below wc.heap.size wc (wc.drew.alloc (.cells #[.int .i64 0, .int .i64 0, .int .i64 0, .int .i64 0, .slice none 0 0] tPc)) := (Below.refl _ _).drew.alloc (Nat.le_refl _) _
      refine ⟨hb0, ?_⟩
      apply Order.lastE (i := 8)
      · rfl
      · decide +kernel
      · decide
      · rfl
      unfold Oper.wp
      go_simp
      refine Order.doneE (by decide +kernel) ?_ _
      refine NoPanic.normal ?_
      go_upto_region 6 with fail
      have hv0 : IsBytes (wc.alloc (.cells (pcC ee nn pp oo (.slice (some ⟨w.heap.size, q, none⟩) sz sz)) tPc)).drew (.slice (some ⟨w.heap.size, q, none⟩) sz sz) (owO b) := by
        by_cases h0 : sz = 0
        · have e0 : owO b = [] := List.eq_nil_of_length_eq_zero (by rw [HL.out.2.2.2.2]; exact h0)
          rw [e0]
          subst h0
          exact ⟨_, 0, rfl, Nat.le_refl _, by unfold maxLen; omega, fun h => absurd rfl h⟩
        · rw [HB.out.2, HQ.out h0]
          exact ((HX.out.2.1.on ((Below.refl _ _).alloc (Nat.le_refl _) _)).on (Below.refl _ _).drew).bytes (by rw [HB.out.1.1]; omega) (Nat.le_refl _) (by unfold maxLen; omega)
      have hal : Below wc.heap.size wc (wc.alloc (.cells (pcC ee nn pp oo (.slice (some ⟨w.heap.size, q, none⟩) sz sz)) tPc)).drew := ((Below.refl _ _).alloc (Nat.le_refl _) _).drew
      have hp0 : PcB (wc.alloc (.cells (pcC ee nn pp oo (.slice (some ⟨w.heap.size, q, none⟩) sz sz)) tPc)).drew wc.heap.size ee nn pp oo (.slice (some ⟨w.heap.size, q, none⟩) sz sz) := heap_alloc_new wc _
      change Code.wp _ _ _ _ (wc.alloc (.cells (pcC ee nn pp oo (.slice (some ⟨w.heap.size, q, none⟩) sz sz)) tPc)).drew
      generalize (wc.alloc (.cells (pcC ee nn pp oo (.slice (some ⟨w.heap.size, q, none⟩) sz sz)) tPc)).drew = V at *
      have HV := Lib.hid (show Below w.heap.size w V ∧ Blk V w.heap.size tSec b ∧ PcB V (w.heap.size + 1) 0 0 0 0 (.slice none 0 0) ∧ PcB V wc.heap.size ee nn pp oo (.slice (some ⟨w.heap.size, q, none⟩) sz sz) ∧ IsBytes V (.slice (some ⟨w.heap.size, q, none⟩) sz sz) (owO b) ∧ w.heap.size + 1 ≠ wc.heap.size from
        ⟨HX.out.1.trans (hal.mono HX.out.1.size), HX.out.2.1.on hal, HX.out.2.2.1.on hal, hp0, hv0, by have := HNe.out; omega⟩)
      have hQ := sector_any ee nn pp oo _ (owO b) V.drew (Ta.IsBytes.below hv0 (Below.refl _ _).drew) (by rw [HL.out.2.2.2.2]; exact hsz') (by have := HL.out; omega) (by have := HL.out; omega) (by have := HL.out; omega) (by have := HL.out; omega)
      have hS8 := secB_len (e := ee) (n := nn) (p := pp) (o := oo) (own := owO b) (by rw [HL.out.2.2.2.2]; exact hsz')
      have HWw := Lib.hid (show decide (secB ee nn pp oo (owO b) = b) = decide (Whole b) from by
        have := (HWi.out ee nn pp oo).1 HWh.out
        obtain ⟨r1, r2, r3, r4⟩ := this
        refine decide_eq_decide.2 ⟨fun h => ⟨HSz.out, by rw [← r1, ← r2, ← r3, ← r4]; exact h⟩, fun h => by rw [r1, r2, r3, r4]; exact h.2⟩)
      generalize secB ee nn pp oo (owO b) = S at *
      have HQ2 := Lib.hid (And.intro hQ hS8)
      clear hQ hS8 hv0 hal hp0 HX HF hsl hw hb0
      have HF := Lib.hid (show ∀ x, Turns (fun k => k = w.heap.size + 1) V x → PcB x wc.heap.size ee nn pp oo (.slice (some ⟨w.heap.size, q, none⟩) sz sz) ∧ (Instr.loadAt tSec (.pointer (some ⟨w.heap.size, 0, none⟩))).run Try.prog x = .ok (.agg (sec b)) x from fun x hx => by
        refine ⟨HV.out.2.2.2.1.turn hx fun e => HV.out.2.2.2.2.2 e.symm, ?_⟩
        have hbk := HV.out.2.1.turn hx (by omega)
        have := run_loadAt_mid (P := Try.prog) x w.heap.size 0 tSec (Lib.byteCells b) _ (fun j v hj => by rw [Nat.zero_add, Lib.cell_of_heap hbk]; simpa [sec] using hj) Try.underlying64 rfl (by rw [Lib.byteCells_length, HB.out.1.1]; exact Ta.info_sec)
        exact this)
      refine Order.region_begin (S := Turns (fun k => k = w.heap.size + 1) V.drew) (by kernel_rfl) ?_
      refine Order.reads_any (idx := [0, 1, 3]) (by kernel_rfl) (Turns.refl _ _) (fun _ _ _ _ _ h => Order.noPanic_put h) 4 _ _ (by decide +kernel) ?_
      simp only [Order.pick, List.getElem?_toArray, List.getElem?_cons_zero, List.getElem?_cons_succ]
      repeat (first
        | (refine Order.reads_off (by rfl) ?_
           simp only [Act.put, List.setIfInBounds_toArray, List.set_cons_zero, List.set_cons_succ])
        | (apply Order.reads_on
           · rfl
           · intro x hx
             first
               | (obtain ⟨hp, hl⟩ := HF.out x (Turns.after_below (Below.refl _ _).drew hx)
                  obtain ⟨c0, c1, c2, c3, c4⟩ := hp.cells
                  exact Order.load_at rfl rfl (by assumption))
               | (go_simp; rfl)
               | (obtain ⟨hp, hl⟩ := HF.out x (Turns.after_below (Below.refl _ _).drew hx)
                  obtain ⟨c0, c1, c2, c3, c4⟩ := hp.cells
                  go_simp; rfl)
           simp only [Act.put, List.setIfInBounds_toArray, List.set_cons_zero, List.set_cons_succ]))
      refine Order.reads_end ?_
      apply Order.acts_any (R := (Turns (fun k => k = w.heap.size + 1))) (fun h k => h.trans k fun _ _ h => h) (i := 2)
      · rfl
      · decide +kernel
      · rfl
      unfold Oper.wp
      go_simp
      refine HQ2.out.1.mono ?_
      rintro e1 Z ⟨rfl, hbz⟩
      refine ⟨Turns.of_below hbz, ?_⟩
      have hez := eql_sec
      have hS8 := HQ2.out.2
      have hb8 := HB.out.1.1
      refine Order.reads_any (idx := [4]) (by kernel_rfl) (Turns.refl _ _) (fun _ _ _ _ _ h => Order.noPanic_put h) 2 _ _ (by decide +kernel) ?_
      simp only [Order.pick, List.getElem?_toArray, List.getElem?_cons_zero, List.getElem?_cons_succ]
      repeat (first
        | (refine Order.reads_off (by rfl) ?_
           simp only [Act.put, List.setIfInBounds_toArray, List.set_cons_zero, List.set_cons_succ])
        | (apply Order.reads_on
           · rfl
           · intro x hx
             first
               | (go_simp; rfl)
               | (have h := eql_sec x S b HQ2.out.2 HB.out.1.1
                  go_simp; rfl)
           simp only [Act.put, List.setIfInBounds_toArray, List.set_cons_zero, List.set_cons_succ]))
      refine Order.reads_end ?_
      have hbz' : Below V.heap.size V Z := (Below.refl V.heap.size V).drew.trans hbz
      have hbox := HV.out.2.2.1.on hbz'
      obtain ⟨c0, c1, c2, c3, c4⟩ := hbox.cells
      obtain ⟨f0, f1, f2, f3, f4⟩ := Ta.C5.free (T := tPc) hbox
      have ht5 := Ta.st5_turns Z (w.heap.size + 1) (.int .i64 (ee : Int)) (.int .i64 (nn : Int)) (.int .i64 (pp : Int)) (.int .i64 (oo : Int)) (.slice (some ⟨w.heap.size, q, none⟩) sz sz)
      have HT5 := Lib.hid (And.intro ht5 (And.intro (Ta.C5.put (T := tPc) hbox (.int .i64 (ee : Int)) (.int .i64 (nn : Int)) (.int .i64 (pp : Int)) (.int .i64 (oo : Int)) (.slice (some ⟨w.heap.size, q, none⟩) sz sz)) hbz'))
      clear hbz hbz' hbox ht5 hez
      apply Order.acts_any (R := (Turns (fun k => k = w.heap.size + 1))) (fun h k => h.trans k fun _ _ h => h) (i := 5)
      · rfl
      · decide +kernel
      · rfl
      unfold Oper.wp
      go_simp
      obtain ⟨Fin, hFin⟩ : ∃ F, F = Ta.st5 Z (w.heap.size + 1) (.int .i64 (ee : Int)) (.int .i64 (nn : Int)) (.int .i64 (pp : Int)) (.int .i64 (oo : Int)) (.slice (some ⟨w.heap.size, q, none⟩) sz sz) := ⟨_, rfl⟩
      rw [← hFin] at HT5
      unfold Ta.st5 at hFin
      rw [← hFin]
      refine ⟨HT5.out.1, ?_⟩
      clear c0 c1 c2 c3 c4 f0 f1 f2 f3 f4 hFin
      refine Order.reads_any (idx := [6]) (by kernel_rfl) (Turns.refl _ _) (fun _ _ _ _ _ h => Order.noPanic_put h) 0 _ _ (by decide +kernel) ?_
      simp only [Order.pick, List.getElem?_toArray, List.getElem?_cons_zero, List.getElem?_cons_succ]
      repeat (first
        | (refine Order.reads_off (by rfl) ?_
           simp only [Act.put, List.setIfInBounds_toArray, List.set_cons_zero, List.set_cons_succ])
        | (apply Order.reads_on
           · rfl
           · intro x hx
             first
               | (go_simp; rfl)
               | (fail
                  go_simp; rfl)
           simp only [Act.put, List.setIfInBounds_toArray, List.set_cons_zero, List.set_cons_succ]))
      refine Order.reads_end ?_
      refine wpAnyH_done (by decide +kernel) ?_ _
      refine NoPanic.normal ?_
      have hfin : Below w.heap.size w Fin := (HV.out.1.trans (HT5.out.2.2.mono HV.out.1.size)).trans (HT5.out.1.below (B := w.heap.size) (by have := HV.out.1.size; have := HT5.out.2.2.size; omega) fun k e => by omega)
      have hvf : Stay (fun k => k < w.heap.size) Fin (fun y => IsBytes y (.slice (some ⟨w.heap.size, q, none⟩) sz sz) (owO b)) := fun y hy => by
        by_cases h0 : sz = 0
        · have e0 : owO b = [] := List.eq_nil_of_length_eq_zero (by rw [HL.out.2.2.2.2]; exact h0)
          rw [e0]
          subst h0
          exact ⟨_, 0, rfl, Nat.le_refl _, by unfold maxLen; omega, fun h => absurd rfl h⟩
        · rw [HB.out.2, HQ.out h0]
          exact (((HV.out.2.1.on HT5.out.2.2).turn HT5.out.1 (by omega)).turn hy (Nat.lt_irrefl _)).bytes (by rw [HB.out.1.1]; omega) (Nat.le_refl _) (by unfold maxLen; omega)
      obtain ⟨g0, g1, g2, g3, g4⟩ := Ta.C5.cells (T := tPc) HT5.out.2.1
      have HR := Lib.hid (show ∃ v, Value.tuple #[.agg (pcC ee nn pp oo (.slice (some ⟨w.heap.size, q, none⟩) sz sz)), .bool (decide (S = b))] = v ∧ Told w.heap.size Fin b v ∧ Below w.heap.size w Fin from
        ⟨_, rfl, ⟨ee, nn, pp, oo, _, owO b, by rw [HWw.out], hvf, fun _ => by
          obtain ⟨r1, r2, r3, r4⟩ := (HWi.out ee nn pp oo).1 HWh.out
          exact ⟨r1, r2, r3, r4, rfl⟩, by have := HL.out; omega, by have := HL.out; omega, by have := HL.out; omega, by have := HL.out; omega, by rw [HL.out.2.2.2.2]; exact hsz'⟩, hfin⟩)
      clear hvf hfin HT5 HWw HWi HQ2 HV HF hS8 hb8
      go_wp2_with fail
      obtain ⟨v, hv, h2, h3⟩ := HR.out
      exact bodyPost_ret (v := v) (by rw [← hv]; simp [results, Try.results94, go_sem, g0, g1, g2, g3, g4, pcC]) rfl ⟨v, rfl, h2, h3⟩
end Sp
end Go.Proofs.Ytkfmmdiflbnhgaa
