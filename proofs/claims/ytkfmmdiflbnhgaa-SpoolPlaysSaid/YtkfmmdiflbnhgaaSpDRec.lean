/-
  Layer 13's document: its record.
-/
import Derived.Test.YtkfmmdiflbnhgaaSgpD
import Derived.Test.YtkfmmdiflbnhgaaSpDoc
import Derived.Deep.CutBlock
namespace Go.Proofs.Ytkfmmdiflbnhgaa
set_option maxRecDepth 100000
open Go.RowKit
open Knot (Turns NewRow)
open Ta (IsBytes Stay sec nul tSec Tray)
open Tr (own_turn own_below own_slice)
namespace Sp
abbrev tDS : TypeId := 46
/-- The document's spool: where its ring begins, how many sectors it has, its epoch, head, tail; was a step refused? -/
def dsC (s : S) : Array Value := #[.int .i64 (s.first : Int), .int .i64 (s.count : Int), .int .i64 (s.epoch : Int), .int .i64 (s.head : Int), .int .i64 (s.tail : Int), .bool s.dead]
def DsB (w : World) (A : Nat) (s : S) : Prop := w.heap[A]? = some (.cells (dsC s) tDS (0, 0))
section
variable {w x : World} {A : Nat} {s : S}
theorem DsB.lt (h : DsB w A s) : A < w.heap.size := (Array.getElem?_eq_some_iff.1 h).1
theorem DsB.on (h : DsB w A s) (hb : Below w.heap.size w x) : DsB x A s := (hb.block A h.lt).trans h
theorem DsB.turn {F : Nat → Prop} (h : DsB w A s) (ht : Turns F w x) (hF : ¬ F A) : DsB x A s := ht.heap h hF
theorem DsB.cells (h : DsB w A s) : w.cell? ⟨A, 0, none⟩ = some (.int .i64 (s.first : Int)) ∧ w.cell? ⟨A, 1, none⟩ = some (.int .i64 (s.count : Int)) ∧ w.cell? ⟨A, 2, none⟩ = some (.int .i64 (s.epoch : Int)) ∧ w.cell? ⟨A, 3, none⟩ = some (.int .i64 (s.head : Int)) ∧
    w.cell? ⟨A, 4, none⟩ = some (.int .i64 (s.tail : Int)) ∧ w.cell? ⟨A, 5, none⟩ = some (.bool s.dead) := by
  refine ⟨?_, ?_, ?_, ?_, ?_, ?_⟩ <;> (rw [Lib.cell_of_heap h]; rfl)
theorem DsB.free (h : DsB w A s) (j : Nat) : w.frozen? ⟨A, j, none⟩ = false := Lib.frozen_of_heap h j
end
theorem neq_sec (W : World) (a b : List UInt8) (ha : a.length = 128) (hb : b.length = 128) : (binOp .neq tSec (.agg (sec a)) (.agg (sec b))).run Try.prog W = .ok (.bool (!decide (a = b))) W := by
  have h := eql_sec W a b ha hb
  rw [run_eql_struct] at h
  rw [run_neq_struct]
  cases hr : (Op.equalIn 10000 tSec (.agg (sec a)) (.agg (sec b))).run Try.prog W with
  | ok v w' =>
    rw [hr] at h
    simp only [Result.andThen] at h ⊢
    injection h with h1 h2
    injection h1 with h1
    rw [h1, h2]
  | _ => rw [hr] at h; simp [Result.andThen] at h
theorem szO_at {b : List UInt8} (h : b.length = 128) : szO b = (b[15]'(by omega)).toNat := by
  have e : (b.drop 15).take 1 = [b[15]'(by omega)] := by
    rw [List.drop_eq_getElem_cons (by omega)]
    rfl
  rw [szO, e]
  simp [num]
theorem slice2 (A sz : Nat) (h : sz ≤ 108) (W : World) : (Instr.sliceAt tSec (.pointer (some ⟨A, 0, none⟩)) (some (.int .i64 16)) (some (.int .i64 (16 + (sz : Int)))) none).run Try.prog W = .ok (.slice (some ⟨A, 16, none⟩) sz 112) W := by
  have hz : ∀ w, (sizeOf (Try.prog.elem tSec)).run Try.prog w = .ok 1 w := fun w => by kernel_rfl
  have hl : Try.prog.arrayLen tSec = 128 := by kernel_rfl
  rw [run_sliceAt_array_lh (P := Try.prog) W tSec ⟨A, 0, none⟩ (by rw [hl]; exact Try.underlying64) .i64 .i64 16 (16 + (sz : Int)) (by omega) (by omega) (by rw [hl]; omega), hz]
  simp only [Result.andThen_ok, slicedAt, hl]
  have e : ((16 : Int) + (sz : Int)).toNat = 16 + sz := by omega
  rw [e]
  simp [Tr.addp]
theorem drec_not {rd : Nat → List UInt8} {count n j : Nat} (hj : j < ofO (rd n)) (h : ¬ Good (rd (n + j)) (epO (rd n)) (n + j) j (ofO (rd n))) : drec rd count n = none := if_neg fun hh => h (hh.2.2 j hj)
theorem drec_all {rd : Nat → List UInt8} {count n : Nat} (h1 : 0 < ofO (rd n)) (h2 : ofO (rd n) ≤ count) (h : All rd n (epO (rd n)) (ofO (rd n))) : drec rd count n = some (bytes rd n (ofO (rd n)), epO (rd n), ofO (rd n)) := if_pos ⟨h1, h2, h⟩
set_option maxHeartbeats 16000000 in
set_option maxRecDepth 100000 in
theorem drec_any (N : Int) (kv cv : Value) (t : Tray (List UInt8)) (s : S) (k : Nat) (w : World) (hk : Ta.IsW w kv t.kept) (hc : Ta.IsW w cv t.cache) (hs : Fits s) (hl : ∀ a, (t.read nul a).length = 128) (hkk : k ≤ 140737488355328) :
    Calls Try.prog 53 #[Ta.trV N kv cv t.left t.dark, .agg (dsC s), .int .i64 (k : Int)] w fun e x => ∃ (pe po : Nat) (bv : Value), e = .returned (.tuple #[bv, .int .i64 (pe : Int), .int .i64 (po : Int)]) ∧ Below w.heap.size w x ∧ (∃ a m c, bv = .slice a m c) ∧ pe < 281474976710656 ∧ po < 281474976710656 ∧
      (drec (rdS t s) s.count k = none → po = 0) ∧ ∀ b e' o', drec (rdS t s) s.count k = some (b, e', o') → pe = e' ∧ po = o' ∧ Stay (fun k => k < w.heap.size) x (fun y => IsBytes y bv b) := by
  have HRd := Lib.hid (show ∀ (z : Int) x, Below w.heap.size w x → _ from fun z x hx => Ta.dread_any N kv cv t z x (hk.below hx) (hc.below hx))
  have hrl : ∀ k, (rdS t s k).length = 128 := fun k => hl _
  have HL := Lib.hid hrl
  have HTl := Lib.hid hl
  obtain ⟨ka, kq, rfl⟩ := hk.slice
  obtain ⟨ca, cq, rfl⟩ := hc.slice
  obtain ⟨W, hW⟩ : ∃ W, W = (w.alloc (.cells #[.int .i64 N, .slice ka t.kept.length kq, .slice ca t.cache.length cq, .int .i64 t.left, .bool t.dark] Ta.tTr)).alloc (.cells (dsC s) tDS) := ⟨_, rfl⟩
  have HW := Lib.hid (show Below w.heap.size w W ∧ Ta.C5 w.heap.size Ta.tTr (.int .i64 N) (.slice ka t.kept.length kq) (.slice ca t.cache.length cq) (.int .i64 t.left) (.bool t.dark) W ∧ DsB W (w.heap.size + 1) s from by
    rw [hW]
    have b1 := (Below.refl (w.alloc (.cells #[.int .i64 N, .slice ka t.kept.length kq, .slice ca t.cache.length cq, .int .i64 t.left, .bool t.dark] Ta.tTr)).heap.size _).alloc (Nat.le_refl _) (.cells (dsC s) tDS)
    have i2 := heap_alloc_new (w.alloc (.cells #[.int .i64 N, .slice ka t.kept.length kq, .slice ca t.cache.length cq, .int .i64 t.left, .bool t.dark] Ta.tTr)) (.cells (dsC s) tDS)
    rw [show (w.alloc (.cells #[.int .i64 N, .slice ka t.kept.length kq, .slice ca t.cache.length cq, .int .i64 t.left, .bool t.dark] Ta.tTr)).heap.size = w.heap.size + 1 by simp] at i2
    exact ⟨((Below.refl _ _).alloc (Nat.le_refl _) _).alloc (by simp) _, (b1.block w.heap.size (by simp)).trans (heap_alloc_new w _), i2⟩)
  have hcnt := hs.count
  have hfst := hs.first
  have htl := hs.tail
  have HSf := Lib.hid hs
  unfold Ta.trV dsC
  go_enter Try.func53, Try.ntmps53
  go_upto_region 2 with fail
  change Code.wp _ _ _ _ ((w.alloc (.cells #[.int .i64 N, .slice ka t.kept.length kq, .slice ca t.cache.length cq, .int .i64 t.left, .bool t.dark] Ta.tTr)).alloc (.cells (dsC s) tDS))
  rw [← hW]
  clear hW hk hc hs hl hrl
  have HF := Lib.hid (show ∀ x, Below W.heap.size W x → (x.cell? ⟨w.heap.size, 0, none⟩ = some (.int .i64 N) ∧ x.cell? ⟨w.heap.size, 1, none⟩ = some (.slice ka t.kept.length kq) ∧ x.cell? ⟨w.heap.size, 2, none⟩ = some (.slice ca t.cache.length cq) ∧ x.cell? ⟨w.heap.size, 3, none⟩ = some (.int .i64 t.left) ∧ x.cell? ⟨w.heap.size, 4, none⟩ = some (.bool t.dark)) ∧ _ from fun x hx =>
    ⟨(HW.out.2.1.on hx).cells, (HW.out.2.2.on hx).cells⟩)
  have HwW := Lib.hid HW.out.1
  generalize w.heap.size + 1 = B at *
  have hc0 : ¬ s.count = 0 := by omega
  have hm := Nat.mod_lt k (show 0 < s.count by omega)
  have hr : (k : Int).tmod (s.count : Int) = ((k % s.count : Nat) : Int) := by rw [Int.tmod_eq_emod_of_nonneg (by omega)]; omega
  have hz := Ta.zero_sec
  have HR0 := Lib.hid (show rdS t s k = t.read nul ((s.first + k % s.count : Nat) : Int) ∧ IntKind.i64.wrap ((s.first : Int) + (k : Int) % (s.count : Int)) = ((s.first + k % s.count : Nat) : Int) from ⟨rfl, by rw [IntKind.wrap_i64] <;> omega⟩)
  go_cut [10] (fun s10 wx => ∃ g, s10 = .pointer (some ⟨g, 0, none⟩) ∧ Hid (Blk wx g tSec (rdS t s k) ∧ Below W.heap.size W wx ∧ W.heap.size ≤ g))
  case first =>
    have HB0 := Lib.hid (show Below W.heap.size W W.drew from (Below.refl _ _).drew)
    refine Order.beginE (fun x => Below W.heap.size W x) [] (by kernel_rfl) ?_
    refine Order.readsE_any (idx := [0, 1, 2, 3, 4, 5, 6, 7]) (by kernel_rfl) (Below.refl _ _).drew (fun _ _ _ _ _ h => Order.noPanic_put h) 3 _ _ (by decide +kernel) ?_
    simp only [Order.pick, List.getElem?_toArray, List.getElem?_cons_zero, List.getElem?_cons_succ]
    repeat (first
      | (refine Order.reads_off (by rfl) ?_
         simp only [Act.put, List.setIfInBounds_toArray, List.set_cons_zero, List.set_cons_succ])
      | (apply Order.reads_on
         · rfl
         · intro x hx
           first
             | (obtain ⟨⟨c0, c1, c2, c3, c4⟩, d0, d1, d2, d3, d4, d5⟩ := HF.out x hx
                exact Order.load_at rfl rfl (by assumption))
             | (go_simp; rfl)
             | (obtain ⟨⟨c0, c1, c2, c3, c4⟩, d0, d1, d2, d3, d4, d5⟩ := HF.out x hx
                go_simp; rfl)
         simp only [Act.put, List.setIfInBounds_toArray, List.set_cons_zero, List.set_cons_succ]))
    refine Order.reads_end ?_
    rw [HR0.out.2]
    have HR0 := Lib.hid HR0.out.1
    generalize ((s.first + (k) % s.count : Nat) : Int) = z at *
    have h8 : (t.read nul z).length = 128 := HTl.out z
    apply Order.actE2 (i := 8) (j := 9)
    · rfl
    · rfl
    · decide +kernel
    · rfl
    · rfl
    · simp only [List.getElem_toArray, List.getElem_cons_succ, List.getElem_cons_zero]
      unfold Oper.wp
      go_simp
      refine (HRd.out z W.drew ((fun h => HwW.out.trans (h.mono HwW.out.size)) (Below.refl W.heap.size W).drew)).mono ?_
      rintro e x1 ⟨rfl, hb1⟩
      have hb1' : Below W.heap.size W x1 := HB0.out.trans hb1
      refine ⟨hb1', ?_⟩
      apply Order.actE (i := 9)
      · rfl
      · decide +kernel
      · rfl
      simp only [List.getElem_toArray, List.getElem_cons_succ, List.getElem_cons_zero]
      unfold Oper.wp
      go_simp
      have hal : Below W.heap.size W (x1.alloc (.cells (sec nul) tSec)) := hb1'.alloc hb1'.size _
      refine ⟨hal, ?_⟩
      apply Order.actE (i := 10)
      · rfl
      · decide +kernel
      · rfl
      simp only [List.getElem_toArray, List.getElem_cons_succ, List.getElem_cons_zero]
      refine wp_store_row tSec _ _ rfl x1.heap.size (sec (t.read nul z)) rfl rfl tSec (sec nul) (heap_alloc_new x1 _) (by rw [Ta.sec_size h8]; exact Ta.info_sec) (by rw [Ta.sec_size h8]; rfl) (Ta.sec_one _) ?_
      have hrow := turn_row (x1.alloc (.cells (sec nul) tSec)) x1.heap.size (sec (t.read nul z))
      have hbf := hal.trans (hrow.below hal.size fun k e => by have := hb1'.size; omega)
      refine ⟨hbf, ?_⟩
      refine Order.doneE (by decide +kernel) ?_ _
      refine NoPanic.normal ?_
      have HX := Lib.hid (show Blk ((x1.alloc (.cells (sec nul) tSec)).setRow x1.heap.size (sec (t.read nul z))) x1.heap.size tSec (rdS t s (k)) ∧ _ ∧ W.heap.size ≤ x1.heap.size from ⟨by rw [HR0.out]; exact Blk.row (heap_alloc_new x1 _) _, hbf, hb1'.size⟩)
      clear hbf hrow hal hb1 hb1'
      go_wp2_with fail
      go_meet
      case rel => exact ⟨_, rfl, HX.out⟩
    · simp only [List.getElem_toArray, List.getElem_cons_succ, List.getElem_cons_zero]
      unfold Oper.wp
      go_simp
      have hal : Below W.heap.size W (W.drew.alloc (.cells (sec nul) tSec)) := HB0.out.alloc HB0.out.size _
      have hnew := heap_alloc_new W.drew (.cells (sec nul) tSec)
      change Below W.heap.size W (W.drew.alloc (.cells (sec nul) tSec)) ∧ _
      refine ⟨hal, ?_⟩
      apply Order.actE (i := 8)
      · rfl
      · decide +kernel
      · rfl
      simp only [List.getElem_toArray, List.getElem_cons_succ, List.getElem_cons_zero]
      unfold Oper.wp
      go_simp
      refine (HRd.out z (W.drew.alloc (.cells (sec nul) tSec)) ((fun h => HwW.out.trans (h.mono HwW.out.size)) hal)).mono ?_
      rintro e x1 ⟨rfl, hb1⟩
      have hb1' : Below W.heap.size W x1 := hal.trans (hb1.mono hal.size)
      refine ⟨hb1', ?_⟩
      have hblk : Blk x1 W.heap.size tSec nul := Blk.on (w := W.drew.alloc (.cells (sec nul) tSec)) hnew hb1
      apply Order.actE (i := 10)
      · rfl
      · decide +kernel
      · rfl
      simp only [List.getElem_toArray, List.getElem_cons_succ, List.getElem_cons_zero]
      refine wp_store_row tSec _ _ rfl W.heap.size (sec (t.read nul z)) rfl rfl tSec (sec nul) hblk (by rw [Ta.sec_size h8]; exact Ta.info_sec) (by rw [Ta.sec_size h8]; rfl) (Ta.sec_one _) ?_
      have hrow := turn_row x1 W.heap.size (sec (t.read nul z))
      have hbf := hb1'.trans (hrow.below hb1'.size fun k e => by omega)
      refine ⟨hbf, ?_⟩
      refine Order.doneE (by decide +kernel) ?_ _
      refine NoPanic.normal ?_
      have HX := Lib.hid (show Blk (x1.setRow W.heap.size (sec (t.read nul z))) W.heap.size tSec (rdS t s (k)) ∧ _ ∧ W.heap.size ≤ W.heap.size from ⟨by rw [HR0.out]; exact hblk.row _, hbf, Nat.le_refl _⟩)
      clear hbf hrow hal hb1 hb1' hblk hnew
      go_wp2_with fail
      go_meet
      case rel => exact ⟨_, rfl, HX.out⟩
  case rest =>
    obtain ⟨G, rfl, HX⟩ := hcut
    clear hc0 hm hr HR0
    have h8 : (rdS t s k).length = 128 := HL.out k
    have HE := Lib.hid (show epO (rdS t s k) < 4294967296 ∧ ofO (rdS t s k) < 65536 from ⟨epO_lt h8, ofO_lt h8⟩)
    have HG1 := Lib.hid (fun x => dgt_any (rdS t s k) 1 4 h8 (by omega) (by omega) x)
    have HG2 := Lib.hid (fun x => dgt_any (rdS t s k) 13 2 h8 (by omega) (by omega) x)
    rw [show num (((rdS t s k).drop 1).take 4) = epO (rdS t s k) from rfl] at HG1
    rw [show num (((rdS t s k).drop 13).take 2) = ofO (rdS t s k) from rfl] at HG2
    have hld : ∀ x, Below wc.heap.size wc x → (Instr.loadAt tSec (.pointer (some ⟨G, 0, none⟩))).run Try.prog x = .ok (.agg (sec (rdS t s k))) x := fun x hx =>
      run_loadAt_mid (P := Try.prog) x G 0 tSec (Lib.byteCells (rdS t s k)) _ (HX.out.1.on hx).range Try.underlying64 rfl (by rw [Lib.byteCells_length, h8]; exact Ta.info_sec)
    have HPe := Lib.hid (show epO (rdS t s k) = epO (rdS t s k) ∧ ofO (rdS t s k) = ofO (rdS t s k) from ⟨rfl, rfl⟩)
    go_upto_region 3 with fail
    refine Order.beginE (fun x => Below wc.heap.size wc x) [] (by kernel_rfl) ?_
    refine Order.readsE_any (idx := [0, 2]) (by kernel_rfl) (Below.refl _ _).drew (fun _ _ _ _ _ h => Order.noPanic_put h) 4 _ _ (by decide +kernel) ?_
    simp only [Order.pick, List.getElem?_toArray, List.getElem?_cons_zero, List.getElem?_cons_succ]
    repeat (first
      | (refine Order.reads_off (by rfl) ?_
         simp only [Act.put, List.setIfInBounds_toArray, List.set_cons_zero, List.set_cons_succ])
      | (apply Order.reads_on
         · rfl
         · intro x hx
           first
             | (have hld' := hld x hx
                exact Order.load_at rfl rfl (by assumption))
             | (go_simp; rfl)
             | (have hld' := hld x hx
                go_simp; rfl)
         simp only [Act.put, List.setIfInBounds_toArray, List.set_cons_zero, List.set_cons_succ]))
    refine Order.reads_end ?_
    apply Order.actE (i := 1)
    · rfl
    · decide +kernel
    · rfl
    unfold Oper.wp
    go_simp
    refine (HG1.out _).mono ?_
    rintro e x1 ⟨rfl, hb1⟩
    have hb1' : Below wc.heap.size wc x1 := (Below.refl wc.heap.size wc).drew.trans hb1
    refine ⟨hb1', ?_⟩
    apply Order.actE (i := 3)
    · rfl
    · decide +kernel
    · rfl
    unfold Oper.wp
    go_simp
    refine (HG2.out _).mono ?_
    rintro e x2 ⟨rfl, hb2⟩
    have hb2' : Below wc.heap.size wc x2 := hb1'.trans (hb2.mono hb1'.size)
    refine ⟨hb2', ?_⟩
    refine Order.readsE_any (idx := [4, 5]) (by kernel_rfl) hb2' (fun _ _ _ _ _ h => Order.noPanic_put h) 0 _ _ (by decide +kernel) ?_
    simp only [Order.pick, List.getElem?_toArray, List.getElem?_cons_zero, List.getElem?_cons_succ]
    repeat (first
      | (refine Order.reads_off (by rfl) ?_
         simp only [Act.put, List.setIfInBounds_toArray, List.set_cons_zero, List.set_cons_succ])
      | (apply Order.reads_on
         · rfl
         · intro x hx
           first
             | (go_simp; rfl)
             | (fail
                go_simp; rfl)
         simp only [Act.put, List.setIfInBounds_toArray, List.set_cons_zero, List.set_cons_succ]))
    refine Order.reads_end ?_
    refine Order.doneE (by decide +kernel) ?_ _
    refine NoPanic.normal ?_
    have HV := Lib.hid (show Below W.heap.size W x2 from HX.out.2.1.trans (hb2'.mono HX.out.2.1.size))
    clear hld hb1 hb1' hb2 hb2' HG1 HG2 HX HPe
    generalize hpe : epO (rdS t s k) = pe at *
    generalize hpo : ofO (rdS t s k) = po at *
    have HP := Lib.hid (And.intro hpe hpo)
    clear hpe hpo
    obtain ⟨⟨b0, b1, b2, b3, b4⟩, d0, d1, d2, d3, d4, d5⟩ := HF.out x2 HV.out
    have HBw := Lib.hid (show Below w.heap.size w x2 from HwW.out.trans (HV.out.mono HwW.out.size))
    by_cases h1 : po < 1
    · have e1 : (po : Int) < 1 := by omega
      have HNo := Lib.hid (show drec (rdS t s) s.count k = none from if_neg fun hh => by have := hh.1; have := HP.out.2; omega)
      clear h1
      go_wp2_with fail
      refine bodyPost_ret (v := .tuple #[.slice none 0 0, .int .i64 ((0 : Nat) : Int), .int .i64 ((0 : Nat) : Int)]) (by simp [results, Try.results53, go_sem]) rfl ⟨0, 0, _, rfl, HBw.out, ⟨none, 0, 0, rfl⟩, by omega, by omega, fun _ => rfl, fun b e' o' h => by rw [HNo.out] at h; cases h⟩
    · have e1 : ¬ (po : Int) < 1 := by omega
      by_cases h2 : s.count < po
      · have e2 : (s.count : Int) < (po : Int) := by omega
        have HNo := Lib.hid (show drec (rdS t s) s.count k = none from if_neg fun hh => by have := hh.2.1; have := HP.out.2; omega)
        clear h1 h2
        go_wp2_with fail
        refine bodyPost_ret (v := .tuple #[.slice none 0 0, .int .i64 ((0 : Nat) : Int), .int .i64 ((0 : Nat) : Int)]) (by simp [results, Try.results53, go_sem]) rfl ⟨0, 0, _, rfl, HBw.out, ⟨none, 0, 0, rfl⟩, by omega, by omega, fun _ => rfl, fun b e' o' h => by rw [HNo.out] at h; cases h⟩
      · have e2 : ¬ (s.count : Int) < (po : Int) := by omega
        have HC := Lib.hid (show 0 < po ∧ po ≤ s.count from by omega)
        have hpc : po ≤ 4096 := by omega
        clear h1 h2
        go_upto_region 6 with fail
        clear e1 e2 b0 b1 b2 b3 b4 d0 d1 d2 d3 d4 d5
        go_wp2_with fail
        go_loopw [9, 13] (fun r i x => ∃ (j : Nat) (l : List UInt8), j ≤ po ∧ i = .int .i64 (j : Int) ∧ Hid (Below x2.heap.size x2 x ∧ x.ownsRow x2.heap.size Ta.tBy 1 r l.length (Lib.byteCells l)) ∧ Hid (l = bytes (rdS t s) k j ∧ ∀ i, i < j → Good (rdS t s (k + i)) pe (k + i) i po)) (fun _ i _ => po - (intOf i).toNat)
        case atStart => exact ⟨0, [], by omega, rfl, ⟨Below.refl _ _, World.ownsRow_nil _ _ _ _⟩, ⟨rfl, fun k hk => by omega⟩⟩
        case round =>
          obtain ⟨j, l, hj, rfl, HR, HGd⟩ := hrel
          by_cases hlt : j < po
          · have hWr : Below W.heap.size W wr := HV.out.trans (HR.out.1.mono HV.out.size)
            have HWr := Lib.hid (show Below W.heap.size W wr ∧ Below w.heap.size w wr from ⟨hWr, HwW.out.trans (hWr.mono HwW.out.size)⟩)
            clear hWr
            have hc0 : ¬ s.count = 0 := by have := HC.out; omega
            have hm := Nat.mod_lt (k + j) (show 0 < s.count by omega)
            have hr : ((k : Int) + (j : Int)).tmod (s.count : Int) = (((k + j) % s.count : Nat) : Int) := by rw [Int.tmod_eq_emod_of_nonneg (by omega), Int.natCast_emod, Int.natCast_add]
            have hw2 : IntKind.i64.wrap ((k : Int) + (j : Int)) = (k : Int) + (j : Int) := by rw [IntKind.wrap_i64] <;> omega
            have HR0 := Lib.hid (show rdS t s (k + j) = t.read nul ((s.first + (k + j) % s.count : Nat) : Int) ∧ IntKind.i64.wrap ((s.first : Int) + ((k : Int) + (j : Int)) % (s.count : Int)) = ((s.first + (k + j) % s.count : Nat) : Int) from ⟨rfl, by rw [show ((k : Int) + (j : Int)) % (s.count : Int) = (((k + j) % s.count : Nat) : Int) from (by rw [Int.natCast_emod, Int.natCast_add])]; rw [IntKind.wrap_i64] <;> omega⟩)
            go_upto_region 9 with fail
            go_cut [14] (fun s14 wx => ∃ g, s14 = .pointer (some ⟨g, 0, none⟩) ∧ Hid (Blk wx g tSec (rdS t s (k + j)) ∧ Below wr.heap.size wr wx ∧ wr.heap.size ≤ g))
            case first =>
              have HB0 := Lib.hid (show Below wr.heap.size wr wr.drew from (Below.refl _ _).drew)
              refine Order.beginE (fun x => Below wr.heap.size wr x) [] (by kernel_rfl) ?_
              refine Order.readsE_any (idx := [0, 1, 2, 3, 4, 5, 6, 7, 8, 9]) (by kernel_rfl) (Below.refl _ _).drew (fun _ _ _ _ _ h => Order.noPanic_put h) 3 _ _ (by decide +kernel) ?_
              simp only [Order.pick, List.getElem?_toArray, List.getElem?_cons_zero, List.getElem?_cons_succ]
              repeat (first
                | (refine Order.reads_off (by rfl) ?_
                   simp only [Act.put, List.setIfInBounds_toArray, List.set_cons_zero, List.set_cons_succ])
                | (apply Order.reads_on
                   · rfl
                   · intro x hx
                     first
                       | (obtain ⟨⟨c0, c1, c2, c3, c4⟩, d0, d1, d2, d3, d4, d5⟩ := HF.out x (HWr.out.1.trans (hx.mono HWr.out.1.size))
                          exact Order.load_at rfl rfl (by assumption))
                       | (go_simp; rfl)
                       | (obtain ⟨⟨c0, c1, c2, c3, c4⟩, d0, d1, d2, d3, d4, d5⟩ := HF.out x (HWr.out.1.trans (hx.mono HWr.out.1.size))
                          go_simp; rfl)
                   simp only [Act.put, List.setIfInBounds_toArray, List.set_cons_zero, List.set_cons_succ]))
              refine Order.reads_end ?_
              rw [HR0.out.2]
              have HR0 := Lib.hid HR0.out.1
              generalize ((s.first + (k + j) % s.count : Nat) : Int) = z at *
              have h8 : (t.read nul z).length = 128 := HTl.out z
              apply Order.actE2 (i := 10) (j := 11)
              · rfl
              · rfl
              · decide +kernel
              · rfl
              · rfl
              · simp only [List.getElem_toArray, List.getElem_cons_succ, List.getElem_cons_zero]
                unfold Oper.wp
                go_simp
                refine (HRd.out z wr.drew ((fun h => HWr.out.2.trans (h.mono HWr.out.2.size)) (Below.refl wr.heap.size wr).drew)).mono ?_
                rintro e x1 ⟨rfl, hb1⟩
                have hb1' : Below wr.heap.size wr x1 := HB0.out.trans hb1
                refine ⟨hb1', ?_⟩
                apply Order.actE (i := 11)
                · rfl
                · decide +kernel
                · rfl
                simp only [List.getElem_toArray, List.getElem_cons_succ, List.getElem_cons_zero]
                unfold Oper.wp
                go_simp
                have hal : Below wr.heap.size wr (x1.alloc (.cells (sec nul) tSec)) := hb1'.alloc hb1'.size _
                refine ⟨hal, ?_⟩
                apply Order.actE (i := 12)
                · rfl
                · decide +kernel
                · rfl
                simp only [List.getElem_toArray, List.getElem_cons_succ, List.getElem_cons_zero]
                refine wp_store_row tSec _ _ rfl x1.heap.size (sec (t.read nul z)) rfl rfl tSec (sec nul) (heap_alloc_new x1 _) (by rw [Ta.sec_size h8]; exact Ta.info_sec) (by rw [Ta.sec_size h8]; rfl) (Ta.sec_one _) ?_
                have hrow := turn_row (x1.alloc (.cells (sec nul) tSec)) x1.heap.size (sec (t.read nul z))
                have hbf := hal.trans (hrow.below hal.size fun k e => by have := hb1'.size; omega)
                refine ⟨hbf, ?_⟩
                refine Order.doneE (by decide +kernel) ?_ _
                refine NoPanic.normal ?_
                have HX := Lib.hid (show Blk ((x1.alloc (.cells (sec nul) tSec)).setRow x1.heap.size (sec (t.read nul z))) x1.heap.size tSec (rdS t s (k + j)) ∧ _ ∧ wr.heap.size ≤ x1.heap.size from ⟨by rw [HR0.out]; exact Blk.row (heap_alloc_new x1 _) _, hbf, hb1'.size⟩)
                clear hbf hrow hal hb1 hb1'
                go_wp2_with fail
                go_meet
                case rel => exact ⟨_, rfl, HX.out⟩
              · simp only [List.getElem_toArray, List.getElem_cons_succ, List.getElem_cons_zero]
                unfold Oper.wp
                go_simp
                have hal : Below wr.heap.size wr (wr.drew.alloc (.cells (sec nul) tSec)) := HB0.out.alloc HB0.out.size _
                have hnew := heap_alloc_new wr.drew (.cells (sec nul) tSec)
                change Below wr.heap.size wr (wr.drew.alloc (.cells (sec nul) tSec)) ∧ _
                refine ⟨hal, ?_⟩
                apply Order.actE (i := 10)
                · rfl
                · decide +kernel
                · rfl
                simp only [List.getElem_toArray, List.getElem_cons_succ, List.getElem_cons_zero]
                unfold Oper.wp
                go_simp
                refine (HRd.out z (wr.drew.alloc (.cells (sec nul) tSec)) ((fun h => HWr.out.2.trans (h.mono HWr.out.2.size)) hal)).mono ?_
                rintro e x1 ⟨rfl, hb1⟩
                have hb1' : Below wr.heap.size wr x1 := hal.trans (hb1.mono hal.size)
                refine ⟨hb1', ?_⟩
                have hblk : Blk x1 wr.heap.size tSec nul := Blk.on (w := wr.drew.alloc (.cells (sec nul) tSec)) hnew hb1
                apply Order.actE (i := 12)
                · rfl
                · decide +kernel
                · rfl
                simp only [List.getElem_toArray, List.getElem_cons_succ, List.getElem_cons_zero]
                refine wp_store_row tSec _ _ rfl wr.heap.size (sec (t.read nul z)) rfl rfl tSec (sec nul) hblk (by rw [Ta.sec_size h8]; exact Ta.info_sec) (by rw [Ta.sec_size h8]; rfl) (Ta.sec_one _) ?_
                have hrow := turn_row x1 wr.heap.size (sec (t.read nul z))
                have hbf := hb1'.trans (hrow.below hb1'.size fun k e => by omega)
                refine ⟨hbf, ?_⟩
                refine Order.doneE (by decide +kernel) ?_ _
                refine NoPanic.normal ?_
                have HX := Lib.hid (show Blk (x1.setRow wr.heap.size (sec (t.read nul z))) wr.heap.size tSec (rdS t s (k + j)) ∧ _ ∧ wr.heap.size ≤ wr.heap.size from ⟨by rw [HR0.out]; exact hblk.row _, hbf, Nat.le_refl _⟩)
                clear hbf hrow hal hb1 hb1' hblk hnew
                go_wp2_with fail
                go_meet
                case rel => exact ⟨_, rfl, HX.out⟩
            case rest =>
              obtain ⟨G1, rfl, HX⟩ := hcut
              clear hc0 hm hr HR0
              have h8 : (rdS t s (k + j)).length = 128 := HL.out _
              obtain ⟨c, hcq⟩ : ∃ c, c = rdS t s (k + j) := ⟨_, rfl⟩
              rw [← hcq] at HX h8
              obtain ⟨sz, hsz⟩ : ∃ sz, sz = szO c := ⟨_, rfl⟩
              have HCq := Lib.hid (And.intro hcq hsz)
              have q15 : wc.cell? ⟨G1, 15, none⟩ = some (.int .u8 (sz : Int)) := by
                rw [HX.out.1.cell (j := 15) (by omega), hsz, szO_at h8]
              have hsl := szO_lt h8
              rw [← hsz] at hsl
              clear hcq hsz
              have HWc := Lib.hid (show Below x2.heap.size x2 wc ∧ Below w.heap.size w wc from by
                have h := HR.out.1.trans (HX.out.2.1.mono HR.out.1.size)
                exact ⟨h, HBw.out.trans (h.mono HBw.out.size)⟩)
              obtain ⟨gd, hgd⟩ : ∃ b : Bool, b = decide (sz ≤ 108 ∧ (j + 1 < po → sz = 108)) := ⟨_, rfl⟩
              have HGq := Lib.hid hgd
              clear hgd
              go_upto_region 11 with fail
              go_cut [68] (fun v wx => v = .bool (!gd) ∧ wc = wx)
              case first =>
                have hw3 : IntKind.i64.wrap ((po : Int) - 1) = (po : Int) - 1 := by rw [IntKind.wrap_i64] <;> omega
                by_cases g1 : 108 < sz
                · have d1 : (108 : Int) < (sz : Int) := by omega
                  obtain rfl : gd = false := by rw [HGq.out]; exact decide_eq_false (by omega)
                  clear g1
                  go_wp2_with fail
                  go_meet
                  case rel => exact ⟨rfl, rfl⟩
                · have d1 : ¬ (108 : Int) < (sz : Int) := by omega
                  by_cases g2 : j + 1 < po
                  · have d2 : (j : Int) < (po : Int) - 1 := by omega
                    by_cases g3 : sz < 108
                    · have d3 : (sz : Int) < 108 := by omega
                      obtain rfl : gd = false := by rw [HGq.out]; exact decide_eq_false (by omega)
                      clear g1 g2 g3
                      go_wp2_with fail
                      go_meet
                      case rel => exact ⟨rfl, rfl⟩
                    · have d3 : ¬ (sz : Int) < 108 := by omega
                      obtain rfl : gd = true := by rw [HGq.out]; exact decide_eq_true (by omega)
                      clear g1 g2 g3
                      go_wp2_with fail
                      go_meet
                      case rel => exact ⟨rfl, rfl⟩
                  · have d2 : ¬ (j : Int) < (po : Int) - 1 := by omega
                    obtain rfl : gd = true := by rw [HGq.out]; exact decide_eq_true (by omega)
                    clear g1 g2
                    go_wp2_with fail
                    go_meet
                    case rel => exact ⟨rfl, rfl⟩
              case rest =>
                obtain ⟨rfl, rfl⟩ := hcut
                clear q15
                cases gd with
                | false =>
                  have HNo := Lib.hid (show drec (rdS t s) s.count k = none from drec_not (j := j) (by rw [HP.out.2]; exact hlt) fun hg => by
                    have h1 := of_decide_eq_false HGq.out.symm
                    refine h1 ⟨?_, fun h2 => ?_⟩
                    · have := hg.1
                      rwa [← HCq.out.1, ← HCq.out.2] at this
                    · have := hg.2.1 (by rw [HP.out.2]; exact h2)
                      rwa [← HCq.out.1, ← HCq.out.2] at this)
                  go_wp2_with fail
                  refine bodyPost_ret (v := .tuple #[.slice none 0 0, .int .i64 ((0 : Nat) : Int), .int .i64 ((0 : Nat) : Int)]) (by simp [results, Try.results53, go_sem]) rfl ⟨0, 0, _, rfl, HWc.out.2, ⟨none, 0, 0, rfl⟩, by omega, by omega, fun _ => rfl, fun b e' o' h => by rw [HNo.out] at h; cases h⟩
                | true =>
                  rw [show (!true) = false from rfl]
                  have h1 := of_decide_eq_true HGq.out.symm
                  have hs108 : sz ≤ 108 := h1.1
                  have HG1 := Lib.hid h1
                  clear h1
                  have hol : (owO c).length = sz := by rw [owO_len h8 (by rw [← HCq.out.2]; exact hs108), ← HCq.out.2]
                  have HEr := Lib.hid (Ta.empty_brow wc)
                  have HBz := Lib.hid (show Below wc.heap.size wc (wc.alloc (.cells #[] Ta.tBy)) from (Below.refl _ _).alloc (Nat.le_refl _) _)
                  have HBt := Lib.hid (show IsBytes (wc.alloc (.cells #[] Ta.tBy)) (.slice (some ⟨G1, 16, none⟩) sz 112) (owO c) from by
                    have := (HX.out.1.on HBz.out).bytes (o := 16) (m := sz) (cap := 112) (by omega) (by omega) (by decide)
                    rwa [show (c.drop 16).take sz = owO c from by rw [HCq.out.2]; rfl] at this)
                  obtain ⟨own, hown⟩ : ∃ own, own = owO c := ⟨_, rfl⟩
                  rw [← hown] at hol HBt
                  have HOw := Lib.hid (And.intro hown hol)
                  have hz16 := slice2 G1 sz hs108
                  clear hown hol
                  go_wp2_with (at_builtin; refine Ta.walk_by rfl _ _ rfl rfl rfl HEr.out HBz.out.size HBt.out (by have := HOw.out.2; omega) ?_)
                  intro ow z o5 g5 n5
                  have hbz : Below wc.heap.size wc z := HBz.out.grown g5 HBz.out.size fun k hk => (HEr.out.lt k hk).1
                  obtain ⟨oa, oc, rfl⟩ := own_slice o5
                  have HZ := Lib.hid (show Below x2.heap.size x2 z ∧ Below w.heap.size w z ∧ Blk z G1 tSec c ∧ IsBytes z (.slice oa own.length oc) own from ⟨HWc.out.1.trans (hbz.mono HWc.out.1.size), HWc.out.2.trans (hbz.mono HWc.out.2.size), HX.out.1.on hbz, (Ta.own_bytes (F := fun _ => False) o5 fun k hk => hk.elim).now⟩)
                  have hrow := own_below (own_below HR.out.2 HX.out.2.1) hbz
                  have HRow := Lib.hid hrow
                  clear hbz o5 g5 n5 hrow HEr HBz HBt hz16
                  have hw2 : IntKind.i64.wrap ((k : Int) + (j : Int)) = (k : Int) + (j : Int) := by rw [IntKind.wrap_i64] <;> omega
                  have hld : ∀ x, Below z.heap.size z x → (Instr.loadAt tSec (.pointer (some ⟨G1, 0, none⟩))).run Try.prog x = .ok (.agg (sec c)) x := fun x hx =>
                    run_loadAt_mid (P := Try.prog) x G1 0 tSec (Lib.byteCells c) _ (HZ.out.2.2.1.on hx).range Try.underlying64 rfl (by rw [Lib.byteCells_length, h8]; exact Ta.info_sec)
                  have HSc := Lib.hid (show ∀ x, Below z.heap.size z x → _ from fun x hx => dsec_any pe (k + j) j po (.slice oa own.length oc) own x (Ta.IsBytes.below HZ.out.2.2.2 hx) (by have := HOw.out.2; omega) (by have := HE.out.1; omega) (by omega) (by omega) (by omega))
                  rw [Int.natCast_add] at HSc
                  have hS8 : (secB pe (k + j) j po own).length = 128 := secB_len (by have := HOw.out.2; omega)
                  obtain ⟨S, hS⟩ : ∃ S, S = secB pe (k + j) j po own := ⟨_, rfl⟩
                  rw [← hS] at HSc hS8
                  have HS := Lib.hid hS
                  clear hS
                  go_upto_region 14 with fail
                  refine Order.beginE (fun x => Below z.heap.size z x) [] (by kernel_rfl) ?_
                  refine Order.readsE_any (idx := [0, 1, 2, 3, 4, 5, 6, 7]) (by kernel_rfl) (Below.refl _ _).drew (fun _ _ _ _ _ h => Order.noPanic_put h) 2 _ _ (by decide +kernel) ?_
                  simp only [Order.pick, List.getElem?_toArray, List.getElem?_cons_zero, List.getElem?_cons_succ]
                  repeat (first
                    | (refine Order.reads_off (by rfl) ?_
                       simp only [Act.put, List.setIfInBounds_toArray, List.set_cons_zero, List.set_cons_succ])
                    | (apply Order.reads_on
                       · rfl
                       · intro x hx
                         first
                           | (have hld' := hld x hx
                              exact Order.load_at rfl rfl (by assumption))
                           | (go_simp; rfl)
                           | (have hld' := hld x hx
                              go_simp; rfl)
                       simp only [Act.put, List.setIfInBounds_toArray, List.set_cons_zero, List.set_cons_succ]))
                  refine Order.reads_end ?_
                  apply Order.actE (i := 8)
                  · rfl
                  · decide +kernel
                  · rfl
                  unfold Oper.wp
                  go_simp
                  refine (HSc.out _ (Below.refl _ _).drew).mono ?_
                  rintro e x1 ⟨rfl, hb1⟩
                  have hb1' : Below z.heap.size z x1 := (Below.refl z.heap.size z).drew.trans hb1
                  refine ⟨hb1', ?_⟩
                  have hnq := fun x => neq_sec x c S h8 hS8
                  refine Order.readsE_any (idx := [9]) (by kernel_rfl) hb1' (fun _ _ _ _ _ h => Order.noPanic_put h) 0 _ _ (by decide +kernel) ?_
                  simp only [Order.pick, List.getElem?_toArray, List.getElem?_cons_zero, List.getElem?_cons_succ]
                  repeat (first
                    | (refine Order.reads_off (by rfl) ?_
                       simp only [Act.put, List.setIfInBounds_toArray, List.set_cons_zero, List.set_cons_succ])
                    | (apply Order.reads_on
                       · rfl
                       · intro x hx
                         first
                           | (have h := hnq x
                              exact Order.load_at rfl rfl (by assumption))
                           | (go_simp; rfl)
                           | (have h := hnq x
                              go_simp; rfl)
                       simp only [Act.put, List.setIfInBounds_toArray, List.set_cons_zero, List.set_cons_succ]))
                  refine Order.reads_end ?_
                  refine Order.doneE (by decide +kernel) ?_ _
                  refine NoPanic.normal ?_
                  have HZ1 := Lib.hid (show Below x2.heap.size x2 x1 ∧ Below w.heap.size w x1 ∧ IsBytes x1 (.slice oa own.length oc) own ∧ x1.ownsRow x2.heap.size Ta.tBy 1 u9 l.length (Lib.byteCells l) from ⟨HZ.out.1.trans (hb1'.mono HZ.out.1.size), HZ.out.2.1.trans (hb1'.mono HZ.out.2.1.size), Ta.IsBytes.below HZ.out.2.2.2 hb1', own_below HRow.out hb1'⟩)
                  clear hb1 hb1' hld hw2 hnq HSc HRow
                  by_cases hq : c = S
                  · rw [decide_eq_true hq]
                    rw [show (!true) = false from rfl]
                    have HNx := Lib.hid (show own = owO (rdS t s (k + j)) ∧ Good (rdS t s (k + j)) pe (k + j) j po from by
                      refine ⟨by rw [HOw.out.1, HCq.out.1], ?_⟩
                      rw [← HCq.out.1]
                      refine ⟨by rw [← HCq.out.2]; exact HG1.out.1, fun h => by rw [← HCq.out.2]; exact HG1.out.2 h, ?_⟩
                      rw [hq, ← hq, ← HOw.out.1, hq]
                      exact HS.out)
                    have hll : l.length ≤ 108 * j := by
                      rw [HGd.out.1]
                      exact bytes_len HL.out j fun i hi => (HGd.out.2 i hi).1
                    obtain ⟨ra, rc, hr9⟩ := own_slice HZ1.out.2.2.2
                    subst hr9
                    have HLl := Lib.hid (show l.length + own.length ≤ 100000000 by have := HOw.out.2; omega)
                    clear hll hq
                    go_wp2_with (at_builtin; refine walk_bytes rfl _ _ rfl rfl rfl HZ1.out.2.2.2 HZ1.out.1.size HZ1.out.2.2.1 HLl.out ?_)
                    intro r' y o5 g5
                    have HO := Lib.hid (show Below x2.heap.size x2 y ∧ y.ownsRow x2.heap.size Ta.tBy 1 r' (l ++ own).length (Lib.byteCells (l ++ own)) from ⟨HZ1.out.1.grown g5 HZ1.out.1.size fun k hk => (HZ1.out.2.2.2.lt k hk).1, by rw [List.length_append]; exact o5⟩)
                    clear o5 g5
                    go_wp2_with fail
                    go_roundw
                    case rel =>
                      refine ⟨j + 1, l ++ own, by omega, by go_num, HO.out, ?_, fun i hi => ?_⟩
                      · rw [bytes_succ, ← HGd.out.1, HNx.out.1]
                      · by_cases hij : i = j
                        · rw [hij]; exact HNx.out.2
                        · exact HGd.out.2 i (by omega)
                    case measure => simp [intOf]; omega
                  · rw [decide_eq_false hq]
                    rw [show (!false) = true from rfl]
                    have HNo := Lib.hid (show drec (rdS t s) s.count k = none from drec_not (j := j) (by rw [HP.out.2]; exact hlt) fun hg => by
                      have h2 := hg.2.2
                      rw [HP.out.1, HP.out.2, ← HCq.out.1, ← HOw.out.1] at h2
                      exact hq (h2.trans HS.out.symm))
                    clear hq
                    go_wp2_with fail
                    refine bodyPost_ret (v := .tuple #[.slice none 0 0, .int .i64 ((0 : Nat) : Int), .int .i64 ((0 : Nat) : Int)]) (by simp [results, Try.results53, go_sem]) rfl ⟨0, 0, _, rfl, HZ1.out.2.1, ⟨none, 0, 0, rfl⟩, by omega, by omega, fun _ => rfl, fun b e' o' h => by rw [HNo.out] at h; cases h⟩
          · obtain rfl : j = po := by omega
            obtain ⟨ra, rc, rfl⟩ := own_slice HR.out.2
            have HYes := Lib.hid (show drec (rdS t s) s.count k = some (l, pe, j) from by
              have h := drec_all (rd := rdS t s) (count := s.count) (n := k) (by rw [HP.out.2]; exact HC.out.1) (by rw [HP.out.2]; exact HC.out.2) (by rw [HP.out.1, HP.out.2]; exact HGd.out.2)
              rw [h, HP.out.1, HP.out.2, HGd.out.1])
            have hst := Ta.own_bytes (F := fun k => k < w.heap.size) HR.out.2 fun k hk => Nat.lt_of_lt_of_le hk HBw.out.size
            have HF := Lib.hid (And.intro (HBw.out.trans (HR.out.1.mono HBw.out.size)) hst)
            clear hst
            go_wp2_with fail
            refine bodyPost_ret (v := .tuple #[.slice ra l.length rc, .int .i64 (pe : Int), .int .i64 (j : Int)]) (by simp [results, Try.results53, go_sem]) rfl ⟨pe, j, _, rfl, HF.out.1, ⟨ra, _, rc, rfl⟩, by have := HE.out; omega, by omega, fun h => (by rw [HYes.out] at h; cases h), fun b e' o' h => by rw [HYes.out] at h; cases h; exact ⟨rfl, rfl, HF.out.2⟩⟩
end Sp
end Go.Proofs.Ytkfmmdiflbnhgaa
