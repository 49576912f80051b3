/-
  Layer 13: the program's sector: a piece as it must stand.
-/
import Derived.Test.YtkfmmdiflbnhgaaSgpA
import Derived.Test.YtkfmmdiflbnhgaaInA
namespace Go.Proofs.Ytkfmmdiflbnhgaa
set_option maxRecDepth 100000
open Go.RowKit
open Knot (Turns)
open Ta (IsBytes sec nul)
namespace Sp
abbrev tPc : TypeId := 148
abbrev tPl : TypeId := 143
abbrev tSec : TypeId := 64
abbrev tBs : TypeId := 22
/-- A piece: of which epoch and number, which of how many, its bytes. -/
def pcC (e n p o : Nat) (v : Value) : Array Value := #[.int .i64 (e : Int), .int .i64 (n : Int), .int .i64 (p : Int), .int .i64 (o : Int), v]
/-- A box of a piece. -/
def PcB (w : World) (A : Nat) (e n p o : Nat) (v : Value) : Prop := w.heap[A]? = some (.cells (pcC e n p o v) tPc (0, 0))
section
variable {w x : World} {A e n p o : Nat} {v : Value}
theorem PcB.lt (h : PcB w A e n p o v) : A < w.heap.size := (Array.getElem?_eq_some_iff.1 h).1
theorem PcB.on (h : PcB w A e n p o v) (hb : Below w.heap.size w x) : PcB x A e n p o v := (hb.block A h.lt).trans h
theorem PcB.turn {F : Nat → Prop} (h : PcB w A e n p o v) (ht : Turns F w x) (hF : ¬ F A) : PcB x A e n p o v := ht.heap h hF
theorem PcB.cells (h : PcB w A e n p o v) : w.cell? ⟨A, 0, none⟩ = some (.int .i64 (e : Int)) ∧ w.cell? ⟨A, 1, none⟩ = some (.int .i64 (n : Int)) ∧ w.cell? ⟨A, 2, none⟩ = some (.int .i64 (p : Int)) ∧ w.cell? ⟨A, 3, none⟩ = some (.int .i64 (o : Int)) ∧ w.cell? ⟨A, 4, none⟩ = some v := by
  refine ⟨?_, ?_, ?_, ?_, ?_⟩ <;> (rw [Lib.cell_of_heap h]; rfl)
end
/-- Bytes are copied into a block. -/
theorem copy_blk {w : World} {g o m cap : Nat} {T : TypeId} {D b : List UInt8} {v : Value} (ty : TypeId) (h : Blk w g T D) (hv : IsBytes w v b) (ho : o + m ≤ D.length) (hb : b.length ≤ m) :
    ∃ w', (Builtin.copy_ #[tBs, tBs] ty #[.slice (some ⟨g, o, none⟩) m cap, v]).run Try.prog w = .ok (goInt b.length) w' ∧ Turns (fun k => k = g) w w' ∧ Blk w' g T (spl D o b) := by
  obtain ⟨ao, c, rfl, h1, h2, h3⟩ := hv
  have hu : Try.prog.underlying tBs = some (.slice 5) := Try.underlying22
  have hsz : (Try.prog.info? 5).map (·.size) = some 1 := by kernel_rfl
  by_cases h0 : b.length = 0
  · obtain rfl : b = [] := List.eq_nil_of_length_eq_zero h0
    have hrun := run_copy_none (P := Try.prog) w tBs tBs ty 5 (some ⟨g, o, none⟩) ao m cap 0 c hu hsz (Nat.min_eq_left (Nat.zero_le _))
    exact ⟨w, hrun, Turns.refl _ _, by rw [spl_nil]; exact h⟩
  · obtain ⟨B, q, rfl, hc⟩ := h3 h0
    have hrun := run_copy_row (P := Try.prog) w tBs tBs ty 5 g o m cap ⟨B, q, none⟩ b.length c (sec D) T (Lib.byteCells b) hu hsz h (by rw [Lib.byteCells_length]; exact (Nat.min_eq_left hb).symm) (fun j u hj => by rw [Tr.addp]; exact hc j u hj) (by simp [sec, Lib.byteCells_length]; omega) (Ta.one_bytes b)
    rw [Lib.byteCells_length] at hrun
    refine ⟨_, hrun, ⟨rfl, rfl, rfl, by simp [World.setRow], fun k _ hk => setRow_other w g k _ hk⟩, ?_⟩
    unfold Blk
    rw [setRow_heap w g _ _ T _ h]
    simp [sec, spl, Lib.byteCells]
theorem wp_copy {P : Program} (w : World) {o : Oper} {a : Go.Act} {K : Go.Act → World → Prop} {Q : Exit → Go.Act → World → Prop} (d s : Operand) (t t' : TypeId)
    (ho : o.op = .call { callee := .builtin .copy, args := #[d, s], argTypes := #[t, t'] }) (v u : Value) (hd : a.eval d = v) (hs : a.eval s = u) {v' : Value} {w' : World}
    (hr : (Builtin.copy_ #[t, t'] o.type #[v, u]).run P w = .ok v' w') (h : K (a.put o.dst v') w') : o.wp P a w K Q := by
  unfold Oper.wp execOp
  simp only [ho, resolve, invoke, builtin, Sem.run_bind, Sem.run_pure, Result.andThen_ok, List.map_toArray, List.map_cons, List.map_nil, hd, hs, hr]
  exact h
theorem turn1 (w : World) (g j : Nat) (v : Value) : Turns (fun k => k = g) w (w.setCell ⟨g, j, none⟩ v) := (Turns.refl (fun k => k = g) w).setCell (p := ⟨g, j, none⟩) rfl v
theorem box_put {w x : World} {A R g e n p o : Nat} {v : Value} {D D' : List UInt8} (h : PcB w A e n p o v ∧ Blk w R tSec nul ∧ Blk w g tSec D ∧ A ≠ g ∧ R ≠ g) (ht : Turns (fun k => k = g) w x) (hb : Blk x g tSec D') : PcB x A e n p o v ∧ Blk x R tSec nul ∧ Blk x g tSec D' ∧ A ≠ g ∧ R ≠ g :=
  ⟨h.1.turn ht h.2.2.2.1, h.2.1.turn ht h.2.2.2.2, hb, h.2.2.2.1, h.2.2.2.2⟩

set_option maxHeartbeats 8000000 in
set_option maxRecDepth 100000 in
theorem sector_any (e n p o : Nat) (v : Value) (own : List UInt8) (w : World) (hv : IsBytes w v own) (hl : own.length ≤ 108) (he : e < 9223372036854775808) (hn : n < 9223372036854775808) (hp : p < 9223372036854775808) (ho : o < 9223372036854775808) :
    Calls Try.prog 79 #[.agg (pcC e n p o v)] w fun r x => r = .returned (.agg (sec (secB e n p o own))) ∧ Below w.heap.size w x := by
  have HV := Lib.hid hv
  obtain ⟨ao, cap, rfl, -, -, -⟩ := hv
  have HN := Lib.hid (And.intro hl (And.intro he (And.intro hn (And.intro hp ho))))
  clear he hn hp ho
  have hzs := Ta.zero_sec
  unfold pcC
  go_enter Try.func79, Try.ntmps79
  go_upto_region 2 with fail
  obtain ⟨X, hX⟩ : ∃ X, X = ((w.alloc (.cells (pcC e n p o (.slice ao own.length cap)) tPc)).alloc (.cells (sec nul) tSec)).alloc (.cells (sec nul) tSec) := ⟨_, rfl⟩
  change Code.wp _ _ _ _ (((w.alloc (.cells (pcC e n p o (.slice ao own.length cap)) tPc)).alloc (.cells (sec nul) tSec)).alloc (.cells (sec nul) tSec))
  rw [← hX]
  have hX0 : PcB X w.heap.size e n p o (.slice ao own.length cap) ∧ Blk X (w.heap.size + 1) tSec nul ∧ Blk X (w.heap.size + 1 + 1) tSec nul ∧ w.heap.size ≠ w.heap.size + 1 + 1 ∧ w.heap.size + 1 ≠ w.heap.size + 1 + 1 := by
    rw [hX]
    have b1 := (Below.refl (w.alloc (.cells (pcC e n p o (.slice ao own.length cap)) tPc)).heap.size _).alloc (Nat.le_refl _) (.cells (sec nul) tSec)
    have b2 := (Below.refl ((w.alloc (.cells (pcC e n p o (.slice ao own.length cap)) tPc)).alloc (.cells (sec nul) tSec)).heap.size _).alloc (Nat.le_refl _) (.cells (sec nul) tSec)
    have i1 := heap_alloc_new (w.alloc (.cells (pcC e n p o (.slice ao own.length cap)) tPc)) (.cells (sec nul) tSec)
    have i2 := heap_alloc_new ((w.alloc (.cells (pcC e n p o (.slice ao own.length cap)) tPc)).alloc (.cells (sec nul) tSec)) (.cells (sec nul) tSec)
    rw [show (w.alloc (.cells (pcC e n p o (.slice ao own.length cap)) tPc)).heap.size = w.heap.size + 1 by simp] at i1
    rw [show ((w.alloc (.cells (pcC e n p o (.slice ao own.length cap)) tPc)).alloc (.cells (sec nul) tSec)).heap.size = w.heap.size + 1 + 1 by simp] at i2
    exact ⟨PcB.on (PcB.on (heap_alloc_new w _) b1) b2, Blk.on i1 b2, i2, by omega, by omega⟩
  have hB0 : Below w.heap.size w X := by rw [hX]; exact (((Below.refl _ _).alloc (Nat.le_refl _) _).alloc (by simp) _).alloc (by simp; omega) _
  have q0 := hX0.2.2.1.cell (j := 0) (by decide)
  have f0 := hX0.2.2.1.free 0
  have ht := turn1 X (w.heap.size + 1 + 1) 0 (.int .u8 ((83 : UInt8).toNat : Nat))
  have hs := box_put hX0 ht (by have := hX0.2.2.1.set 0 83; rwa [show nul.set 0 83 = fil [83] from fil_start] at this)
  have hle : ∀ k, k = w.heap.size + 1 + 1 → w.heap.size ≤ k := fun k h => by omega
  have HB := Lib.hid (hB0.trans (ht.below hB0.size hle))
  have HS := Lib.hid hs
  have HL := Lib.hid hle
  have HR := Lib.hid (show w.heap.size ≤ w.heap.size + 1 by omega)
  clear hX0 hB0 ht hs hX hle
  go_upto_region 3 with fail
  clear q0 f0
  change Code.wp _ _ _ _ (X.setCell ⟨w.heap.size + 1 + 1, 0, none⟩ (.int .u8 ((83 : UInt8).toNat : Nat)))
  generalize X.setCell ⟨w.heap.size + 1 + 1, 0, none⟩ (.int .u8 ((83 : UInt8).toNat : Nat)) = Y2 at *
  generalize w.heap.size + 1 + 1 = g at *
  generalize w.heap.size + 1 = R at *
  generalize hA : w.heap.size = A at HS ⊢
  clear hA
  have HP := Lib.hid (put_any g 1 4 127 (e) tSec (fil ([83])) Y2.drew (HS.out.2.2.1.on (Below.refl _ Y2).drew) (fil_len (by decide)) (by omega) (by omega) HN.out.2.1)
  rw [put1] at HP
  have HF := Lib.hid (show ∀ x, Turns (fun k => k = g) Y2 x → _ from fun x hx => (HS.out.1.turn hx HS.out.2.2.2.1).cells)
  refine Order.region_begin (S := Turns (fun k => k = g) Y2.drew) (by kernel_rfl) ?_
  refine Order.reads_any (idx := [0, 1, 2, 3]) (by kernel_rfl) (Turns.refl _ _) (fun _ _ _ _ _ h => Order.noPanic_put h) 1 _ _ (by decide +kernel) ?_
  simp only [Order.pick, List.getElem?_toArray, List.getElem?_cons_zero, List.getElem?_cons_succ]
  repeat (first
    | (refine Order.reads_off (by rfl) ?_
       simp only [Act.put, List.setIfInBounds_toArray, List.set_cons_zero, List.set_cons_succ])
    | (apply Order.reads_on
       · rfl
       · intro x hx
         first
           | (go_simp; rfl)
           | (obtain ⟨c0, c1, c2, c3, c4⟩ := HF.out x (Turns.after_below (Below.refl _ _).drew hx)
              go_simp; rfl)
       simp only [Act.put, List.setIfInBounds_toArray, List.set_cons_zero, List.set_cons_succ]))
  refine Order.reads_end ?_
  apply Order.acts_any (R := (Turns (fun k => k = g))) (fun h k => h.trans k fun _ _ h => h) (i := 4)
  · rfl
  · decide +kernel
  · rfl
  unfold Oper.wp
  go_simp
  refine HP.out.mono ?_
  rintro r1 Y3 ⟨rfl, ht, hsz, hbk⟩
  refine ⟨ht, ?_⟩
  refine wpAnyH_done (by decide +kernel) ?_ _
  refine NoPanic.normal ?_
  have ht' : Turns (fun k => k = g) Y2 Y3 := Turns.after_below (Below.refl _ Y2).drew ht
  have hs' := box_put HS.out ht' hbk
  have hb' := HB.out.trans (ht'.below HB.out.size HL.out)
  clear HS HB HF HP ht ht' hsz hbk
  have HS := Lib.hid hs'
  have HB := Lib.hid hb'
  clear hs' hb'
  go_upto_region 4 with fail
  have HP := Lib.hid (put_any g 5 6 123 (n) tSec (fil (h1 e)) Y3.drew (HS.out.2.2.1.on (Below.refl _ Y3).drew) (fil_len (by rw [h1_len]; omega)) (by omega) (by omega) HN.out.2.2.1)
  rw [put2] at HP
  have HF := Lib.hid (show ∀ x, Turns (fun k => k = g) Y3 x → _ from fun x hx => (HS.out.1.turn hx HS.out.2.2.2.1).cells)
  refine Order.region_begin (S := Turns (fun k => k = g) Y3.drew) (by kernel_rfl) ?_
  refine Order.reads_any (idx := [0, 1, 2, 3]) (by kernel_rfl) (Turns.refl _ _) (fun _ _ _ _ _ h => Order.noPanic_put h) 1 _ _ (by decide +kernel) ?_
  simp only [Order.pick, List.getElem?_toArray, List.getElem?_cons_zero, List.getElem?_cons_succ]
  repeat (first
    | (refine Order.reads_off (by rfl) ?_
       simp only [Act.put, List.setIfInBounds_toArray, List.set_cons_zero, List.set_cons_succ])
    | (apply Order.reads_on
       · rfl
       · intro x hx
         first
           | (go_simp; rfl)
           | (obtain ⟨c0, c1, c2, c3, c4⟩ := HF.out x (Turns.after_below (Below.refl _ _).drew hx)
              go_simp; rfl)
       simp only [Act.put, List.setIfInBounds_toArray, List.set_cons_zero, List.set_cons_succ]))
  refine Order.reads_end ?_
  apply Order.acts_any (R := (Turns (fun k => k = g))) (fun h k => h.trans k fun _ _ h => h) (i := 4)
  · rfl
  · decide +kernel
  · rfl
  unfold Oper.wp
  go_simp
  refine HP.out.mono ?_
  rintro r1 Y4 ⟨rfl, ht, hsz, hbk⟩
  refine ⟨ht, ?_⟩
  refine wpAnyH_done (by decide +kernel) ?_ _
  refine NoPanic.normal ?_
  have ht' : Turns (fun k => k = g) Y3 Y4 := Turns.after_below (Below.refl _ Y3).drew ht
  have hs' := box_put HS.out ht' hbk
  have hb' := HB.out.trans (ht'.below HB.out.size HL.out)
  clear HS HB HF HP ht ht' hsz hbk
  have HS := Lib.hid hs'
  have HB := Lib.hid hb'
  clear hs' hb'
  go_upto_region 5 with fail
  have HP := Lib.hid (put_any g 11 2 117 (p) tSec (fil (h2 e n)) Y4.drew (HS.out.2.2.1.on (Below.refl _ Y4).drew) (fil_len (by rw [h2_len]; omega)) (by omega) (by omega) HN.out.2.2.2.1)
  rw [put3] at HP
  have HF := Lib.hid (show ∀ x, Turns (fun k => k = g) Y4 x → _ from fun x hx => (HS.out.1.turn hx HS.out.2.2.2.1).cells)
  refine Order.region_begin (S := Turns (fun k => k = g) Y4.drew) (by kernel_rfl) ?_
  refine Order.reads_any (idx := [0, 1, 2, 3]) (by kernel_rfl) (Turns.refl _ _) (fun _ _ _ _ _ h => Order.noPanic_put h) 1 _ _ (by decide +kernel) ?_
  simp only [Order.pick, List.getElem?_toArray, List.getElem?_cons_zero, List.getElem?_cons_succ]
  repeat (first
    | (refine Order.reads_off (by rfl) ?_
       simp only [Act.put, List.setIfInBounds_toArray, List.set_cons_zero, List.set_cons_succ])
    | (apply Order.reads_on
       · rfl
       · intro x hx
         first
           | (go_simp; rfl)
           | (obtain ⟨c0, c1, c2, c3, c4⟩ := HF.out x (Turns.after_below (Below.refl _ _).drew hx)
              go_simp; rfl)
       simp only [Act.put, List.setIfInBounds_toArray, List.set_cons_zero, List.set_cons_succ]))
  refine Order.reads_end ?_
  apply Order.acts_any (R := (Turns (fun k => k = g))) (fun h k => h.trans k fun _ _ h => h) (i := 4)
  · rfl
  · decide +kernel
  · rfl
  unfold Oper.wp
  go_simp
  refine HP.out.mono ?_
  rintro r1 Y5 ⟨rfl, ht, hsz, hbk⟩
  refine ⟨ht, ?_⟩
  refine wpAnyH_done (by decide +kernel) ?_ _
  refine NoPanic.normal ?_
  have ht' : Turns (fun k => k = g) Y4 Y5 := Turns.after_below (Below.refl _ Y4).drew ht
  have hs' := box_put HS.out ht' hbk
  have hb' := HB.out.trans (ht'.below HB.out.size HL.out)
  clear HS HB HF HP ht ht' hsz hbk
  have HS := Lib.hid hs'
  have HB := Lib.hid hb'
  clear hs' hb'
  go_upto_region 6 with fail
  have HP := Lib.hid (put_any g 13 2 115 (o) tSec (fil (h3 e n p)) Y5.drew (HS.out.2.2.1.on (Below.refl _ Y5).drew) (fil_len (by rw [h3_len]; omega)) (by omega) (by omega) HN.out.2.2.2.2)
  rw [put4] at HP
  have HF := Lib.hid (show ∀ x, Turns (fun k => k = g) Y5 x → _ from fun x hx => (HS.out.1.turn hx HS.out.2.2.2.1).cells)
  refine Order.region_begin (S := Turns (fun k => k = g) Y5.drew) (by kernel_rfl) ?_
  refine Order.reads_any (idx := [0, 1, 2, 3]) (by kernel_rfl) (Turns.refl _ _) (fun _ _ _ _ _ h => Order.noPanic_put h) 1 _ _ (by decide +kernel) ?_
  simp only [Order.pick, List.getElem?_toArray, List.getElem?_cons_zero, List.getElem?_cons_succ]
  repeat (first
    | (refine Order.reads_off (by rfl) ?_
       simp only [Act.put, List.setIfInBounds_toArray, List.set_cons_zero, List.set_cons_succ])
    | (apply Order.reads_on
       · rfl
       · intro x hx
         first
           | (go_simp; rfl)
           | (obtain ⟨c0, c1, c2, c3, c4⟩ := HF.out x (Turns.after_below (Below.refl _ _).drew hx)
              go_simp; rfl)
       simp only [Act.put, List.setIfInBounds_toArray, List.set_cons_zero, List.set_cons_succ]))
  refine Order.reads_end ?_
  apply Order.acts_any (R := (Turns (fun k => k = g))) (fun h k => h.trans k fun _ _ h => h) (i := 4)
  · rfl
  · decide +kernel
  · rfl
  unfold Oper.wp
  go_simp
  refine HP.out.mono ?_
  rintro r1 Y6 ⟨rfl, ht, hsz, hbk⟩
  refine ⟨ht, ?_⟩
  refine wpAnyH_done (by decide +kernel) ?_ _
  refine NoPanic.normal ?_
  have ht' : Turns (fun k => k = g) Y5 Y6 := Turns.after_below (Below.refl _ Y5).drew ht
  have hs' := box_put HS.out ht' hbk
  have hb' := HB.out.trans (ht'.below HB.out.size HL.out)
  clear HS HB HF HP ht ht' hsz hbk
  have HS := Lib.hid hs'
  have HB := Lib.hid hb'
  clear hs' hb'
  go_upto_region 7 with fail
  have HP := Lib.hid (put_any g 15 1 113 (own.length) tSec (fil (h4 e n p o)) Y6.drew (HS.out.2.2.1.on (Below.refl _ Y6).drew) (fil_len (by rw [h4_len]; omega)) (by omega) (by omega) (by have := HN.out.1; omega))
  rw [put5] at HP
  have HF := Lib.hid (show ∀ x, Turns (fun k => k = g) Y6 x → _ from fun x hx => (HS.out.1.turn hx HS.out.2.2.2.1).cells)
  refine Order.region_begin (S := Turns (fun k => k = g) Y6.drew) (by kernel_rfl) ?_
  refine Order.reads_any (idx := [0, 1, 2, 3]) (by kernel_rfl) (Turns.refl _ _) (fun _ _ _ _ _ h => Order.noPanic_put h) 1 _ _ (by decide +kernel) ?_
  simp only [Order.pick, List.getElem?_toArray, List.getElem?_cons_zero, List.getElem?_cons_succ]
  repeat (first
    | (refine Order.reads_off (by rfl) ?_
       simp only [Act.put, List.setIfInBounds_toArray, List.set_cons_zero, List.set_cons_succ])
    | (apply Order.reads_on
       · rfl
       · intro x hx
         first
           | (go_simp; rfl)
           | (obtain ⟨c0, c1, c2, c3, c4⟩ := HF.out x (Turns.after_below (Below.refl _ _).drew hx)
              go_simp; rfl)
       simp only [Act.put, List.setIfInBounds_toArray, List.set_cons_zero, List.set_cons_succ]))
  refine Order.reads_end ?_
  apply Order.acts_any (R := (Turns (fun k => k = g))) (fun h k => h.trans k fun _ _ h => h) (i := 4)
  · rfl
  · decide +kernel
  · rfl
  unfold Oper.wp
  go_simp
  refine HP.out.mono ?_
  rintro r1 Y7 ⟨rfl, ht, hsz, hbk⟩
  refine ⟨ht, ?_⟩
  refine wpAnyH_done (by decide +kernel) ?_ _
  refine NoPanic.normal ?_
  have ht' : Turns (fun k => k = g) Y6 Y7 := Turns.after_below (Below.refl _ Y6).drew ht
  have hs' := box_put HS.out ht' hbk
  have hb' := HB.out.trans (ht'.below HB.out.size HL.out)
  clear HS HB HF HP ht ht' hsz hbk
  have HS := Lib.hid hs'
  have HB := Lib.hid hb'
  clear hs' hb'
  go_upto_region 8 with fail
  have HC := Lib.hid (show ∀ ty, _ from fun ty => copy_blk (D := fil (h5 e n p o own)) (o := 16) (m := 108) (cap := 112) ty (HS.out.2.2.1.on (Below.refl _ Y7).drew) (Ta.IsBytes.below HV.out (HB.out.trans ((Below.refl w.heap.size Y7).drew))) (by rw [fil_len (l := h5 e n p o own) (by rw [h5_len]; omega)]; omega) HN.out.1)
  have HF := Lib.hid (show ∀ x, Turns (fun k => k = g) Y7 x → _ from fun x hx => (HS.out.1.turn hx HS.out.2.2.2.1).cells)
  refine Order.region_begin (S := Turns (fun k => k = g) Y7.drew) (by kernel_rfl) ?_
  refine Order.reads_any (idx := [0, 1, 2]) (by kernel_rfl) (Turns.refl _ _) (fun _ _ _ _ _ h => Order.noPanic_put h) 1 _ _ (by decide +kernel) ?_
  simp only [Order.pick, List.getElem?_toArray, List.getElem?_cons_zero, List.getElem?_cons_succ]
  repeat (first
    | (refine Order.reads_off (by rfl) ?_
       simp only [Act.put, List.setIfInBounds_toArray, List.set_cons_zero, List.set_cons_succ])
    | (apply Order.reads_on
       · rfl
       · intro x hx
         first
           | (go_simp; rfl)
           | (obtain ⟨c0, c1, c2, c3, c4⟩ := HF.out x (Turns.after_below (Below.refl _ _).drew hx)
              go_simp; rfl)
       simp only [Act.put, List.setIfInBounds_toArray, List.set_cons_zero, List.set_cons_succ]))
  refine Order.reads_end ?_
  apply Order.acts_any (R := (Turns (fun k => k = g))) (fun h k => h.trans k fun _ _ h => h) (i := 3)
  · rfl
  · decide +kernel
  · rfl
  simp only [List.getElem_toArray, List.getElem_cons_succ, List.getElem_cons_zero]
  obtain ⟨Y8, hrun, ht, hbk⟩ := HC.out 3
  rw [put6] at hbk
  refine wp_copy _ _ _ tBs tBs rfl _ _ rfl rfl hrun ?_
  refine ⟨ht, ?_⟩
  simp only [Act.put, goInt, List.setIfInBounds_toArray, List.set_cons_zero, List.set_cons_succ]
  refine wpAnyH_done (by decide +kernel) ?_ _
  refine NoPanic.normal ?_
  have ht' : Turns (fun k => k = g) Y7 Y8 := Turns.after_below (Below.refl _ Y7).drew ht
  have hs' := box_put HS.out ht' hbk
  have hb' := HB.out.trans (ht'.below HB.out.size HL.out)
  clear HS HB HF HC ht ht' hrun hbk
  have HS := Lib.hid hs'
  have HB := Lib.hid hb'
  clear hs' hb'
  go_upto_region 9 with fail
  have HD := Lib.hid (show IsBytes Y8.drew (.slice (some ⟨g, 0, none⟩) 124 128) (head e n p o own) from by
    have := (HS.out.2.2.1.on (Below.refl _ Y8).drew).bytes (o := 0) (m := 124) (cap := 128) (by rw [fil_len (l := h6 e n p o own) (by rw [h6_len]; have := HN.out.1; omega)]; omega) (by omega) (by unfold maxLen; omega)
    rwa [List.drop_zero, fil_take HN.out.1] at this)
  have HQ := Lib.hid (sum_any _ _ Y8.drew HD.out)
  have hcr := crc_lt (head e n p o own)
  have hfe := fil_end (e := e) (n := n) (p := p) (o := o) HN.out.1
  generalize crc (head e n p o own) = C at *
  have HE := Lib.hid hfe
  clear hfe HD
  refine Order.region_begin (S := Turns (fun k => k = g) Y8.drew) (by kernel_rfl) ?_
  refine Order.reads_any (idx := [0, 1]) (by kernel_rfl) (Turns.refl _ _) (fun _ _ _ _ _ h => Order.noPanic_put h) 3 _ _ (by decide +kernel) ?_
  simp only [Order.pick, List.getElem?_toArray, List.getElem?_cons_zero, List.getElem?_cons_succ]
  repeat (first
    | (refine Order.reads_off (by rfl) ?_
       simp only [Act.put, List.setIfInBounds_toArray, List.set_cons_zero, List.set_cons_succ])
    | (apply Order.reads_on
       · rfl
       · intro x hx
         first
           | (go_simp; rfl)
           | (fail
              go_simp; rfl)
       simp only [Act.put, List.setIfInBounds_toArray, List.set_cons_zero, List.set_cons_succ]))
  refine Order.reads_end ?_
  apply Order.acts_any (R := (Turns (fun k => k = g))) (fun h k => h.trans k fun _ _ h => h) (i := 2)
  · rfl
  · decide +kernel
  · rfl
  unfold Oper.wp
  go_simp
  refine HQ.out.mono ?_
  rintro r1 Z ⟨rfl, hbz⟩
  refine ⟨Turns.of_below hbz, ?_⟩
  have hbz' : Below Y8.heap.size Y8 Z := ((Below.refl Y8.heap.size Y8).drew).trans hbz
  have HP := Lib.hid (put_any g 124 4 4 C tSec (fil (h6 e n p o own)) Z (HS.out.2.2.1.on hbz') (fil_len (by rw [h6_len]; have := HN.out.1; omega)) (by omega) (by omega) (by omega))
  rw [HE.out] at HP
  have hw : IntKind.i64.wrap (C : Int) = (C : Int) := by rw [IntKind.wrap_i64] <;> omega
  refine Order.reads_any (idx := [3]) (by kernel_rfl) (Turns.refl _ _) (fun _ _ _ _ _ h => Order.noPanic_put h) 1 _ _ (by decide +kernel) ?_
  simp only [Order.pick, List.getElem?_toArray, List.getElem?_cons_zero, List.getElem?_cons_succ]
  repeat (first
    | (refine Order.reads_off (by rfl) ?_
       simp only [Act.put, List.setIfInBounds_toArray, List.set_cons_zero, List.set_cons_succ])
    | (apply Order.reads_on
       · rfl
       · intro x hx
         first
           | (go_simp; rfl)
           | (fail
              go_simp; rfl)
       simp only [Act.put, List.setIfInBounds_toArray, List.set_cons_zero, List.set_cons_succ]))
  refine Order.reads_end ?_
  apply Order.acts_any (R := (Turns (fun k => k = g))) (fun h k => h.trans k fun _ _ h => h) (i := 4)
  · rfl
  · decide +kernel
  · rfl
  unfold Oper.wp
  go_simp
  first | rw [hw] | skip
  refine HP.out.mono ?_
  rintro r1 Y9 ⟨rfl, ht, hsz, hbk⟩
  refine ⟨ht, ?_⟩
  refine wpAnyH_done (by decide +kernel) ?_ _
  refine NoPanic.normal ?_
  have ht' : Turns (fun k => k = g) Y8 Y9 := Turns.after_below hbz' ht
  have hs' := box_put HS.out ht' hbk
  have hb' := HB.out.trans (ht'.below HB.out.size HL.out)
  clear HS HB HP HE HQ ht ht' hsz hbk hbz hbz' hcr
  have h8 := secB_len (e := e) (n := n) (p := p) (o := o) HN.out.1
  have hs8 := Ta.sec_size h8
  have hi : (Try.prog.info? tSec).map (·.size) = some (sec (secB e n p o own)).size := by rw [hs8]; exact Ta.info_sec
  have hst := Ta.store_row Y9 R (sec nul) (secB e n p o own) (by rw [hs8]; rfl) hs'.2.1
  have hrow := setRow_heap Y9 R _ (sec (secB e n p o own)) _ _ hs'.2.1
  have hbf := below_setRow hb' (g := R) (by have := hs'.2.1.lt; exact HR.out) (sec (secB e n p o own))
  have HE := Lib.hid (And.intro hbf (And.intro hrow hi))
  have HK := Lib.hid hs'.2.2.1
  clear hs' hb' hbf hrow hi h8
  go_wp2_with (refine wpList_load_mid rfl tSec (.tmp 3) rfl g 0 rfl (Lib.byteCells (secB e n p o own)) _ (fun j v hj => by rw [Nat.zero_add, Lib.cell_of_heap HK.out]; simpa [sec] using hj) Try.underlying64 rfl (by rw [show (Lib.byteCells (secB e n p o own)).length = (sec (secB e n p o own)).size by simp [sec]]; exact HE.out.2.2) ?_; rw [show (Lib.byteCells (secB e n p o own)).toArray = sec (secB e n p o own) from rfl])
  exact bodyPost_ret (v := .agg (sec (secB e n p o own))) (results_cell_row (p := 2) (ty := tSec) (by kernel_rfl) _ _ R tSec _ (0, 0) _ rfl HE.out.2.1 Try.underlying64 rfl HE.out.2.2) rfl ⟨rfl, HE.out.1⟩
end Sp
end Go.Proofs.Ytkfmmdiflbnhgaa
