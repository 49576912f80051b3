/-
  Layer 13: the program's Open.
  Layer 13: the program's write: a record's sectors, one by one, and the flush.
  Layer 13: the program's Append.
-/
import Derived.Test.YtkfmmdiflbnhgaaSpFind
namespace Go.Proofs.Ytkfmmdiflbnhgaa
set_option maxRecDepth 100000
open Go.RowKit
open Knot (Turns NewRow)
open Ta (IsBytes Stay sec nul ptr IsT)
namespace Sp
/-- May a spool be opened so, upon a tray of n sectors? -/
def Opens (n : Nat) (f c head epoch : Int) : Prop := (2 ≤ c ∧ c ≤ 4096 ∧ 0 ≤ f ∧ f ≤ n - c) ∧ 0 ≤ head ∧ head ≤ 1099511627776 ∧ 1 ≤ epoch ∧ epoch ≤ 4294967295
section
variable {w : World} {p n : Nat} {t : Ta.Tray (List UInt8)} {F : Nat → Prop} {f c head epoch : Int}
set_option maxHeartbeats 8000000 in
set_option maxRecDepth 100000 in
theorem open_bad (hf : -9223372036854775808 ≤ f ∧ f ≤ 9223372036854775807) (hc : -9223372036854775808 ≤ c ∧ c ≤ 9223372036854775807) (ht : IsT w p n t F) (ho : ¬ Opens n f c head epoch) :
    Calls Try.prog 20 #[ptr p, .agg #[.int .i64 f, .int .i64 c], .int .i64 head, .int .i64 epoch] w fun e x => e = .returned (.tuple #[.pointer none, .slice none 0 0, .int .i64 1]) ∧ Below w.heap.size w x := by
  have hb : Below w.heap.size w (w.alloc (.cells #[.int .i64 f, .int .i64 c] tRg)) := (Below.refl _ _).alloc (Nat.le_refl _) _
  have HO := Lib.hid (of_any f c hf hc (ht.below hb))
  obtain ⟨ok, hok⟩ : ∃ b : Bool, b = decide (2 ≤ c ∧ c ≤ 4096 ∧ 0 ≤ f ∧ f ≤ (n : Int) - c) := ⟨_, rfl⟩
  rw [← hok] at HO
  have HB := Lib.hid hb
  have HK := Lib.hid (And.intro hok ho)
  clear hb hok ho ht hf hc
  cases ok with
  | false =>
    go_enter Try.func20, Try.ntmps20
    go_wp2_with fail
    refine HO.out.mono ?_
    rintro e x ⟨rfl, hx⟩
    have HX := Lib.hid (HB.out.trans (hx.mono HB.out.size))
    clear hx
    go_wp2_with fail
    refine bodyPost_ret (v := .tuple #[.pointer none, .slice none 0 0, .int .i64 1]) (by simp [results, Try.results20, go_sem]) rfl ?_
    exact ⟨rfl, HX.out⟩
  | true =>
    have hbad : head < 0 ∨ 1099511627776 < head ∨ epoch < 1 ∨ 4294967295 < epoch := by
      have h1 := of_decide_eq_true HK.out.1.symm
      have h2 := HK.out.2
      unfold Opens at h2
      by_cases g1 : head < 0
      · exact .inl g1
      · by_cases g2 : 1099511627776 < head
        · exact .inr (.inl g2)
        · by_cases g3 : epoch < 1
          · exact .inr (.inr (.inl g3))
          · exact .inr (.inr (.inr (by
              apply Classical.byContradiction
              intro g4
              exact h2 ⟨h1, by omega, by omega, by omega, by omega⟩)))
    by_cases g1 : head < 0
    · clear hbad
      go_enter Try.func20, Try.ntmps20
      go_wp2_with fail
      refine HO.out.mono ?_
      rintro e x ⟨rfl, hx⟩
      have HX := Lib.hid (HB.out.trans (hx.mono HB.out.size))
      clear hx
      go_wp2_with fail
      refine bodyPost_ret (v := .tuple #[.pointer none, .slice none 0 0, .int .i64 1]) (by simp [results, Try.results20, go_sem]) rfl ?_
      exact ⟨rfl, HX.out⟩
    · by_cases g2 : 1099511627776 < head
      · clear hbad
        go_enter Try.func20, Try.ntmps20
        go_wp2_with fail
        refine HO.out.mono ?_
        rintro e x ⟨rfl, hx⟩
        have HX := Lib.hid (HB.out.trans (hx.mono HB.out.size))
        clear hx
        go_wp2_with fail
        refine bodyPost_ret (v := .tuple #[.pointer none, .slice none 0 0, .int .i64 1]) (by simp [results, Try.results20, go_sem]) rfl ?_
        exact ⟨rfl, HX.out⟩
      · by_cases g3 : epoch < 1
        · clear hbad
          go_enter Try.func20, Try.ntmps20
          go_wp2_with fail
          refine HO.out.mono ?_
          rintro e x ⟨rfl, hx⟩
          have HX := Lib.hid (HB.out.trans (hx.mono HB.out.size))
          clear hx
          go_wp2_with fail
          refine bodyPost_ret (v := .tuple #[.pointer none, .slice none 0 0, .int .i64 1]) (by simp [results, Try.results20, go_sem]) rfl ?_
          exact ⟨rfl, HX.out⟩
        · have g4 : 4294967295 < epoch := by omega
          clear hbad
          go_enter Try.func20, Try.ntmps20
          go_wp2_with fail
          refine HO.out.mono ?_
          rintro e x ⟨rfl, hx⟩
          have HX := Lib.hid (HB.out.trans (hx.mono HB.out.size))
          clear hx
          go_wp2_with fail
          refine bodyPost_ret (v := .tuple #[.pointer none, .slice none 0 0, .int .i64 1]) (by simp [results, Try.results20, go_sem]) rfl ?_
          exact ⟨rfl, HX.out⟩
set_option maxHeartbeats 8000000 in
set_option maxRecDepth 100000 in
theorem open_any (s : S) (hs : s.tail = s.head) (hd : s.dead = false) (ho : Opens n s.first s.count s.head s.epoch) (ht : IsT w p n t F) :
    Calls Try.prog 20 #[ptr p, .agg #[.int .i64 (s.first : Int), .int .i64 (s.count : Int)], .int .i64 (s.head : Int), .int .i64 (s.epoch : Int)] w fun e x => ∃ q v, e = .returned (.tuple #[ptr q, v, .int .i64 0]) ∧ Below w.heap.size w x ∧ w.heap.size ≤ q ∧
      SpB x q p { s with tail := (found t s).2 } ∧ Recs w.heap.size (fun k => k < w.heap.size ∨ k = q) x v (found t s).1 ∧ s.tail ≤ (found t s).2 ∧ (found t s).2 ≤ s.head + s.count + 65535 := by
  obtain ⟨⟨o1, o2, o3, o4⟩, o5, o6, o7, o8⟩ := ho
  have hb : Below w.heap.size w (w.alloc (.cells #[.int .i64 (s.first : Int), .int .i64 (s.count : Int)] tRg)) := (Below.refl _ _).alloc (Nat.le_refl _) _
  have hnum := ht.num
  have HO := Lib.hid (of_any (s.first : Int) (s.count : Int) (by omega) (by omega) (ht.below hb))
  rw [decide_eq_true (show 2 ≤ (s.count : Int) ∧ (s.count : Int) ≤ 4096 ∧ 0 ≤ (s.first : Int) ∧ (s.first : Int) ≤ (n : Int) - (s.count : Int) from ⟨o1, o2, o3, o4⟩)] at HO
  have hfit : Fits s := ⟨by omega, by omega, by omega, by omega, by omega⟩
  have HB := Lib.hid (And.intro hb (And.intro ht (And.intro hfit (And.intro hs (show s.first + s.count ≤ n by omega)))))
  have d1 : ¬ (s.head : Int) < 0 := by omega
  have d2 : ¬ (1099511627776 : Int) < (s.head : Int) := by omega
  have d3 : ¬ (s.epoch : Int) < 1 := by omega
  have d4 : ¬ (4294967295 : Int) < (s.epoch : Int) := by omega
  have hcell := heap_alloc_new w (.cells #[.int .i64 (s.first : Int), .int .i64 (s.count : Int)] tRg)
  have HC := Lib.hid hcell
  have HH := Lib.hid (And.intro hd o6)
  clear hb hcell hfit hd hs o1 o2 o3 o4 o5 o7 o8 ht hnum
  go_enter Try.func20, Try.ntmps20
  go_wp2_with fail
  refine HO.out.mono ?_
  rintro e x ⟨rfl, hx⟩
  have hxc : x.heap[w.heap.size]? = some (.cells #[.int .i64 (s.first : Int), .int .i64 (s.count : Int)] tRg (0, 0)) := (hx.block w.heap.size (by simp)).trans HC.out
  have HX := Lib.hid (HB.out.1.trans (hx.mono HB.out.1.size))
  have r0 : x.cell? ⟨w.heap.size, 0, none⟩ = some (.int .i64 (s.first : Int)) := by rw [Lib.cell_of_heap hxc]; rfl
  have r1 : x.cell? ⟨w.heap.size, 1, none⟩ = some (.int .i64 (s.count : Int)) := by rw [Lib.cell_of_heap hxc]; rfl
  have hwx : w.heap.size < x.heap.size := (Array.getElem?_eq_some_iff.1 hxc).1
  clear hx hxc HO HC
  have hyy : Below x.heap.size x (x.alloc (.cells (boxS p s) tSo)) := (Below.refl _ _).alloc (Nat.le_refl _) _
  have hwy : Below w.heap.size w (x.alloc (.cells (boxS p s) tSo)) := HX.out.trans (hyy.mono HX.out.size)
  have hsp : SpB (x.alloc (.cells (boxS p s) tSo)) x.heap.size p s := heap_alloc_new x _
  have HFi := Lib.hid (find_any hsp HB.out.2.2.1 (HB.out.2.1.below hwy) HB.out.2.2.2.2 (fun h => by have := HB.out.2.1.low _ h; have := HX.out.size; omega) HB.out.2.2.2.1 (by have := HH.out.2; omega))
  have HY := Lib.hid (And.intro hwy hyy)
  clear hyy hwy hsp
  unfold boxS at HFi HY
  rw [HB.out.2.2.2.1, HH.out.1] at HFi HY
  go_wp2_with fail
  refine HFi.out.mono ?_
  rintro e z ⟨v, rfl, ht, hz, hr, h1, h2⟩
  have hb : Below w.heap.size w z := HY.out.1.trans (ht.below HY.out.1.size fun k e => by omega)
  have hr2 : Recs w.heap.size (fun k => k < w.heap.size ∨ k = x.heap.size) z v (found t s).1 := by
    obtain ⟨vs, g1, g2⟩ := hr
    refine ⟨vs, Ta.own_base g1 (by simp; omega), fun i hi => ?_⟩
    obtain ⟨u, hu, hst⟩ := g2 i hi
    refine ⟨u, hu, hst.grow (Turns.refl _ _) fun k _ hk => ?_⟩
    rcases hk with (hk | hk) | hk
    · exact .inl (by simp; omega)
    · exact .inl (by simp; omega)
    · exact .inr hk
  have HE := Lib.hid (And.intro hb (And.intro hz (And.intro hr2 (And.intro h1 h2))))
  clear ht hz hr hr2 hb h1 h2 HFi
  go_wp2_with fail
  refine bodyPost_ret (v := .tuple #[ptr x.heap.size, v, .int .i64 0]) (by simp [results, Try.results20, go_sem]) rfl ⟨x.heap.size, v, rfl, HE.out.1, by omega, by rw [HH.out.1]; exact HE.out.2.1, HE.out.2.2.1, by rw [HB.out.2.2.2.1]; exact HE.out.2.2.2⟩
end
end Sp
end Go.Proofs.Ytkfmmdiflbnhgaa

namespace Go.Proofs.Ytkfmmdiflbnhgaa
set_option maxRecDepth 100000
open Go.RowKit
open Knot (Turns NewRow)
open Ta (IsBytes Stay sec nul ptr IsT Tray)
namespace Sp
/-- The bytes of the k-th sector of a record. -/
def chunk (b : List UInt8) (k : Nat) : List UInt8 := (b.drop (k * 108)).take 108
theorem chunk_le (b : List UInt8) (k : Nat) : (chunk b k).length ≤ 108 := by simp [chunk]; omega
theorem chunk_len (b : List UInt8) (k : Nat) : (chunk b k).length = min ((k + 1) * 108) b.length - k * 108 := by simp [chunk]; omega
/-- On which sector of the tray a number stands. -/
def S.at (s : S) (k : Nat) : Nat := s.first + k % s.count
/-- The k-th sector of a record at the tail. -/
def S.sector (s : S) (b : List UInt8) (o k : Nat) : List UInt8 := secB s.epoch (s.tail + k) k o (chunk b k)
/-- So many sectors of a record, from the k-th on, are written: the tray; was no step refused? -/
def wr (s : S) (b : List UInt8) (o : Nat) : Nat → Nat → Tray (List UInt8) → Tray (List UInt8) × Bool
  | 0, _, t => (t, true)
  | f + 1, k, t => if t.left = 0 then (t.dim, false) else wr s b o f (k + 1) (t.put (s.at (s.tail + k) : Nat) (s.sector b o k))
/-- And the flush. -/
def wrote (s : S) (b : List UInt8) (o : Nat) (t : Tray (List UInt8)) : Tray (List UInt8) × Bool :=
  let r := wr s b o o 0 t
  if r.2 then (if r.1.left = 0 then (r.1.dim, false) else (r.1.flush, true)) else r
theorem wr_stop {s : S} {b : List UInt8} {o f k : Nat} {t : Tray (List UInt8)} (h : t.left = 0) : wr s b o (f + 1) k t = (t.dim, false) := by rw [wr, if_pos h]
theorem wr_go {s : S} {b : List UInt8} {o f k : Nat} {t : Tray (List UInt8)} (h : t.left ≠ 0) : wr s b o (f + 1) k t = wr s b o f (k + 1) (t.put (s.at (s.tail + k) : Nat) (s.sector b o k)) := by rw [wr, if_neg h]
theorem pad_full {b : List UInt8} (h : b.length = 128) : Ta.pad b = b := by simp [Ta.pad, h]
theorem write_full {n : Nat} {t : Tray (List UInt8)} {k : Nat} {b : List UInt8} (hk : k < n) (hb : b.length = 128) : t.write n (k : Int) b = (if t.left = 0 then t.dim else t.put (k : Int) b, if t.left = 0 then 20 else 0) := by
  unfold Tray.write
  rw [if_neg (by omega), pad_full hb]
  by_cases h : t.left = 0
  · rw [if_pos h, if_pos h, if_pos h]
  · rw [if_neg h, if_neg h, if_neg h]
/-- A record's bytes, cut for a sector. -/
theorem chunk_slice {w : World} {v : Value} {b : List UInt8} (h : IsBytes w v b) (k : Nat) (hk : k * 108 ≤ b.length) (_hb : b.length ≤ 60000) :
    ∃ a', (∀ W : World, (Instr.sliceAt 22 v (some (.int .i64 ((k : Int) * 108))) (some (.int .i64 ((min ((k + 1) * 108) b.length : Nat) : Int))) (some (.int .i64 ((min ((k + 1) * 108) b.length : Nat) : Int)))).run Try.prog W = .ok (.slice a' (chunk b k).length (chunk b k).length) W) ∧
      ∀ y, IsBytes y v b → IsBytes y (.slice a' (chunk b k).length (chunk b k).length) (chunk b k) := by
  obtain ⟨ao, cap, rfl, h1, h2, h3⟩ := h
  have hz : ∀ W, (sizeOf (Try.prog.elem 22)).run Try.prog W = .ok 1 W := fun w => by kernel_rfl
  have hel : Try.prog.underlying 22 = some (.slice (Try.prog.elem 22)) := by kernel_rfl
  have hm : min ((k + 1) * 108) b.length ≤ b.length := Nat.min_le_right _ _
  have hm2 : k * 108 ≤ min ((k + 1) * 108) b.length := by omega
  have hcl := chunk_len b k
  refine ⟨if min ((k + 1) * 108) b.length = k * 108 then ao else ao.map (·.add (k * 108 * 1)), fun W => ?_, fun y hy => ?_⟩
  · rw [run_sliceAt_slice (P := Try.prog) W _ _ _ _ _ hel, run_slice_lhm (P := Try.prog) W _ ao b.length cap hel .i64 .i64 .i64 ((k : Int) * 108) _ _ (by omega) (by omega) (by omega) (by omega), hz]
    simp only [Result.andThen_ok, sliced]
    rw [show ((k : Int) * 108).toNat = k * 108 by omega, Int.toNat_natCast, hcl]
  · obtain ⟨ao', cap', e, g1, g2, g3⟩ := hy
    obtain ⟨rfl, -, rfl⟩ := Value.slice.inj e
    refine ⟨_, _, rfl, Nat.le_refl _, Nat.le_trans (by omega) g2, fun hne => ?_⟩
    obtain ⟨g, o, rfl, hc⟩ := g3 (by omega)
    rw [if_neg (by omega)]
    refine ⟨g, o + k * 108, by simp [Tr.addp], fun j u hj => ?_⟩
    have hj' := (List.getElem?_eq_some_iff.1 hj).1
    rw [Lib.byteCells_length] at hj'
    have hjb : k * 108 + j < b.length := by omega
    rw [Nat.add_assoc]
    refine hc (k * 108 + j) u ?_
    rw [← hj]
    have h108 : j < 108 := by have := chunk_le b k; omega
    simp [Lib.byteCells, chunk, h108]
section
variable {w : World} {q p n : Nat} {s : S} {t : Tray (List UInt8)} {F : Nat → Prop}
set_option maxHeartbeats 16000000 in
set_option maxRecDepth 100000 in
theorem write_any (v : Value) (b : List UInt8) (o : Nat) (h : SpB w q p s) (hs : Fits s) (ht : IsT w p n t F) (hn : s.first + s.count ≤ n) (hq : ¬ F q) (hv : Stay F w fun x => IsBytes x v b) (hb : b.length ≤ 60000) (ho : o ≤ 4096) (hob : (o - 1) * 108 ≤ b.length) (hc : t.cache.length + o ≤ 100000) :
    Calls Try.prog 55 #[ptr q, v, .int .i64 (o : Int)] w fun e x => e = .returned (.bool (wrote s b o t).2) ∧ Turns F w x ∧ ∃ F', IsT x p n (wrote s b o t).1 F' ∧ (∀ k, F' k → F k ∨ w.heap.size ≤ k) := by
  have HS := Lib.hid (And.intro hs (And.intro hn (And.intro hq (And.intro hv (And.intro hb (And.intro hob hc))))))
  have HT := Lib.hid (And.intro h ht)
  obtain ⟨va, vc, rfl, -⟩ := hv.now
  have htl := hs.tail
  clear h ht hn hq hv hb hob hc
  go_enter Try.func55, Try.ntmps55
  go_wp2_with fail
  go_loopw [13] (fun i x => ∃ (j : Nat) (t' : Tray (List UInt8)) (F' : Nat → Prop), j ≤ o ∧ i = .int .i64 (j : Int) ∧ Hid (Turns F w x ∧ IsT x p n t' F' ∧ (∀ k, F' k → F k ∨ w.heap.size ≤ k) ∧ t'.cache.length ≤ t.cache.length + j) ∧ Hid (wr s b o o 0 t = wr s b o (o - j) j t')) (fun i _ => o - (intOf i).toNat)
  case atStart => exact ⟨0, t, F, by omega, rfl, ⟨Turns.refl _ _, HT.out.2, fun _ h => .inl h, by omega⟩, Lib.hid rfl⟩
  case round =>
    obtain ⟨j, t', F', hj, rfl, HX, HE⟩ := hrel
    by_cases hlt : j < o
    · have hjb : j * 108 ≤ b.length := Nat.le_trans (Nat.mul_le_mul_right 108 (by omega)) HS.out.2.2.2.2.2.1
      have hvx := HS.out.2.2.2.1 _ HX.out.1
      obtain ⟨ca, hsl, hcb⟩ := chunk_slice hvx j hjb HS.out.2.2.2.2.1
      have hbx : SpB wr q p s := HT.out.1.turn HX.out.1 HS.out.2.2.1
      have hb6 := HS.out.2.2.2.2.1
      have HBx := Lib.hid (And.intro hbx (hcb _ hvx))
      have hM : (if (b.length : Int) < ((j : Int) + 1) * 108 then (b.length : Int) else ((j : Int) + 1) * 108) = ((min ((j + 1) * 108) b.length : Nat) : Int) := by split <;> omega
      have HMl := Lib.hid hM
      clear hM
      go_upto_region 5 with fail
      rw [HMl.out]
      generalize min ((j + 1) * 108) b.length = M at *
      clear HMl hvx hcb
      have hcl := chunk_le b j
      have HCk := Lib.hid hcl
      clear hcl
      have hw : IntKind.i64.wrap ((s.tail : Int) + (j : Int)) = (s.tail : Int) + (j : Int) := by rw [IntKind.wrap_i64] <;> omega
      have HF := Lib.hid (show ∀ x, Below wr.heap.size wr x → _ from fun x hx => (HBx.out.1.on hx).cells)
      refine Order.beginE (fun x => Below wr.heap.size wr x) [20] (by kernel_rfl) ?_
      refine Order.readsE_any (idx := [0, 1, 2, 3, 4, 5, 6, 7, 8, 9, 10, 11, 12, 13, 14, 15, 16, 17, 18]) (by kernel_rfl) (Below.refl _ _).drew (fun _ _ _ _ _ h => Order.noPanic_put h) 2 _ _ (by decide +kernel) ?_
      simp only [Order.pick, List.getElem?_toArray, List.getElem?_cons_zero, List.getElem?_cons_succ]
      repeat (first
        | (refine Order.reads_off (by rfl) ?_
           simp only [Act.put, List.setIfInBounds_toArray, List.set_cons_zero, List.set_cons_succ])
        | (apply Order.reads_on
           · rfl
           · intro x hx
             first
               | (obtain ⟨k0, k1, k2, k3, k4, k5, k6⟩ := HF.out x hx
                  exact Order.load_at rfl rfl (by assumption))
               | (go_simp; rfl)
               | (obtain ⟨k0, k1, k2, k3, k4, k5, k6⟩ := HF.out x hx
                  go_simp; rfl)
           simp only [Act.put, List.setIfInBounds_toArray, List.set_cons_zero, List.set_cons_succ]))
      refine Order.reads_end ?_
      apply Order.actE (i := 19)
      · rfl
      · decide +kernel
      · rfl
      simp only [List.getElem_toArray, List.getElem_cons_succ, List.getElem_cons_zero]
      unfold Oper.wp
      go_simp
      have hb0 : Below wr.heap.size wr (wr.drew.alloc (.cells #[.int .i64 0, .int .i64 0, .int .i64 0, .int .i64 0, .slice none 0 0] tPc)) := (Below.refl _ _).drew.alloc (Nat.le_refl _) _
      refine ⟨hb0, ?_⟩
      apply Order.lastE (i := 20)
      · rfl
      · decide +kernel
      · decide
      · rfl
      unfold Oper.wp
      go_simp
      refine Order.doneE (by decide +kernel) ?_ _
      refine NoPanic.normal ?_
      have hTi : (s.tail : Int) + (j : Int) = ((s.tail + j : Nat) : Int) := by omega
      rw [hTi]
      obtain ⟨T, hT⟩ : ∃ T, T = s.tail + j := ⟨_, rfl⟩
      rw [← hT]
      have HTt := Lib.hid (And.intro hT (show T < 281474976710656 by omega))
      clear hTi hT hb0 hw hsl
      have hal : Below wr.heap.size wr (wr.alloc (.cells (pcC s.epoch T j o (.slice ca (chunk b j).length (chunk b j).length)) tPc)).drew := ((Below.refl _ _).alloc (Nat.le_refl _) _).drew
      have hp0 : PcB (wr.alloc (.cells (pcC s.epoch T j o (.slice ca (chunk b j).length (chunk b j).length)) tPc)).drew wr.heap.size s.epoch T j o (.slice ca (chunk b j).length (chunk b j).length) := heap_alloc_new wr _
      change Exit.then _ _ _ _ (wr.alloc (.cells (pcC s.epoch T j o (.slice ca (chunk b j).length (chunk b j).length)) tPc)).drew
      generalize (wr.alloc (.cells (pcC s.epoch T j o (.slice ca (chunk b j).length (chunk b j).length)) tPc)).drew = V at *
      have hfe := HS.out.1.epoch
      have hQ := sector_any s.epoch T j o _ (chunk b j) V (Ta.IsBytes.below HBx.out.2 hal) HCk.out (by omega) (by have := HTt.out.2; omega) (by omega) (by omega)
      have hS8 := secB_len (e := s.epoch) (n := T) (p := j) (o := o) (own := chunk b j) HCk.out
      have hSs : s.sector b o j = secB s.epoch T j o (chunk b j) := by rw [HTt.out.1]; rfl
      have HPw := Lib.hid (And.intro hal hp0)
      have HQ := Lib.hid hQ
      clear hQ hal hp0 hfe
      generalize secB s.epoch T j o (chunk b j) = S8 at *
      have HSs := Lib.hid hSs
      clear hSs
      obtain ⟨c0, c1, c2, c3, c4⟩ := HPw.out.2.cells
      unfold pcC at HQ
      have hzs := Ta.zero_sec
      go_wp2_with fail
      refine HQ.out.mono ?_
      rintro e1 x2 ⟨rfl, hb2⟩
      have hst := Ta.store_sec x2 x2.heap.size nul S8 rfl rfl hS8
      have hs8 := Ta.sec_size hS8
      have hs0 : (sec nul).size = 128 := rfl
      have hne : ¬ sec nul = #[] := fun e => by rw [e] at hs0; cases hs0
      clear c0 c1 c2 c3 c4
      go_upto_region 7 with fail
      obtain ⟨Z, hZ⟩ : ∃ Z, Z = x2.alloc (.cells (sec S8) Ta.tSec) := ⟨_, rfl⟩
      rw [← hZ]
      have hz2 : Below x2.heap.size x2 Z := by rw [hZ]; exact (Below.refl _ _).alloc (Nat.le_refl _) _
      have hvz : Below V.heap.size V Z := hb2.trans (hz2.mono hb2.size)
      have hrz : Below wr.heap.size wr Z := HPw.out.1.trans (hvz.mono HPw.out.1.size)
      have hsb : Blk Z x2.heap.size Ta.tSec S8 := by rw [hZ]; exact heap_alloc_new x2 _
      have hgg : wr.heap.size < x2.heap.size := Nat.lt_of_lt_of_le HPw.out.2.lt hb2.size
      have HZ := Lib.hid (And.intro hrz (And.intro hsb (And.intro (HPw.out.2.on hvz) (And.intro (HX.out.2.1.below hrz) hgg))))
      have HSz := Lib.hid hS8
      clear hz2 hvz hrz hsb hb2 hZ HQ hgg hst hs8 hs0 hne hzs hS8
      generalize x2.heap.size = G at *
      have hqF : ¬ F' q := fun h => by
        rcases HX.out.2.2.1 q h with h | h
        · exact HS.out.2.2.1 h
        · have := HT.out.1.lt; omega
      have hlow : ∀ k, F' k → k < wr.heap.size := HX.out.2.1.low
      have HFl := Lib.hid (And.intro hqF hlow)
      have HFc := Lib.hid (show ∀ x, Turns F' Z x → (x.cell? ⟨q, 0, none⟩ = some (.int .i64 (s.first : Int)) ∧ x.cell? ⟨q, 1, none⟩ = some (.int .i64 (s.count : Int)) ∧ x.cell? ⟨q, 2, none⟩ = some (ptr p)) ∧ x.cell? ⟨wr.heap.size, 1, none⟩ = some (.int .i64 (T : Int)) from fun x hx => by
        obtain ⟨k0, k1, k2, -⟩ := ((HBx.out.1.on HZ.out.1).turn hx HFl.out.1).cells
        have h2 := (HZ.out.2.2.1.turn hx fun h => Nat.lt_irrefl _ (HFl.out.2 _ h)).cells
        exact ⟨⟨k0, k1, k2⟩, h2.2.1⟩)
      have HA := Lib.hid (fun x => at_any s.first s.count T (by have := HS.out.1.count; omega) HS.out.1.first (by have := HTt.out.2; omega) HS.out.1.count.2 x)
      have hat : s.first + T % s.count = s.at (s.tail + j) := by rw [HTt.out.1]; rfl
      have hatn : s.first + T % s.count < n := by
        have h1 := Nat.mod_lt T (show 0 < s.count by have := HS.out.1.count; omega)
        have h2 := HS.out.2.1
        omega
      have HAt := Lib.hid (And.intro hat hatn)
      clear hqF hlow hat hatn
      refine Order.region_begin (S := Turns F' Z.drew) (by kernel_rfl) ?_
      refine Order.reads_any (idx := [0, 1, 2, 3, 4, 5, 6, 7, 8, 9, 10, 12]) (by kernel_rfl) (Turns.refl _ _) (fun _ _ _ _ _ h => Order.noPanic_put h) 3 _ _ (by decide +kernel) ?_
      simp only [Order.pick, List.getElem?_toArray, List.getElem?_cons_zero, List.getElem?_cons_succ]
      repeat (first
        | (refine Order.reads_off (by rfl) ?_
           simp only [Act.put, List.setIfInBounds_toArray, List.set_cons_zero, List.set_cons_succ])
        | (apply Order.reads_on
           · rfl
           · intro x hx
             first
               | (go_simp; rfl)
               | (obtain ⟨⟨k0, k1, k2⟩, k3⟩ := HFc.out x (Turns.after_below (Below.refl _ _).drew hx)
                  go_simp; rfl)
           simp only [Act.put, List.setIfInBounds_toArray, List.set_cons_zero, List.set_cons_succ]))
      refine Order.reads_end ?_
      apply Order.acts_any (R := (Turns F')) (fun h k => h.trans k fun _ _ h => h) (i := 11)
      · rfl
      · decide +kernel
      · rfl
      unfold Oper.wp
      go_simp
      refine (HA.out _).mono ?_
      rintro e2 X ⟨rfl, hbX⟩
      refine ⟨Turns.of_below hbX, ?_⟩
      have hzX : Below Z.heap.size Z X := ((Below.refl Z.heap.size Z).drew).trans hbX
      have hbk : Blk X G Ta.tSec S8 := HZ.out.2.1.on hzX
      have hwr := Ta.write_any ((s.first + T % s.count : Nat) : Int) (.slice (some ⟨G, 0, none⟩) 128 128) S8 (HZ.out.2.2.2.1.below hzX) (fun y hy => by
        have := (hbk.turn hy fun h => by have := HFl.out.2 _ h; have := HZ.out.2.2.2.2; omega).bytes (o := 0) (m := 128) (cap := 128) (by rw [HSz.out]; omega) (Nat.le_refl _) (by unfold maxLen; omega)
        rwa [List.drop_zero, List.take_of_length_le (by rw [HSz.out]; exact Nat.le_refl _)] at this) (by have := HX.out.2.2.2; have := HS.out.2.2.2.2.2.2; omega)
      rw [write_full HAt.out.2 HSz.out] at hwr
      have HWr := Lib.hid hwr
      have HzX := Lib.hid hzX
      clear hwr hzX hbX hbk HA HFc
      generalize s.first + T % s.count = A at *
      by_cases h0 : t'.left = 0
      · simp only [h0, if_true] at HWr
        have hne : ((20 : Int) != 0) = true := rfl
        apply Order.acts_any (R := (Turns F')) (fun h k => h.trans k fun _ _ h => h) (i := 13)
        · rfl
        · decide +kernel
        · rfl
        unfold Oper.wp
        go_simp
        refine HWr.out.mono ?_
        rintro e3 y ⟨rfl, hty, hiy⟩
        refine ⟨hty, ?_⟩
        refine Order.reads_any (idx := [14]) (by kernel_rfl) (Turns.refl _ _) (fun _ _ _ _ _ h => Order.noPanic_put h) 0 _ _ (by decide +kernel) ?_
        simp only [Order.pick, List.getElem?_toArray, List.getElem?_cons_zero, List.getElem?_cons_succ]
        repeat (first
          | (refine Order.reads_off (by rfl) ?_
             simp only [Act.put, List.setIfInBounds_toArray, List.set_cons_zero, List.set_cons_succ])
          | (apply Order.reads_on
             · rfl
             · intro x hx
               first
                 | (go_simp; rfl)
                 | (fail
                    go_simp; rfl)
             simp only [Act.put, List.setIfInBounds_toArray, List.set_cons_zero, List.set_cons_succ]))
        refine Order.reads_end ?_
        refine wpAnyH_done (by decide +kernel) ?_ _
        refine NoPanic.normal ?_
        have HY := Lib.hid (And.intro hty hiy)
        have HWo := Lib.hid (show wrote s b o t = (t'.dim, false) from by
          unfold wrote
          have h1 := HE.out
          rw [show o - j = (o - j - 1) + 1 by omega, wr_stop h0] at h1
          rw [h1]
          rfl)
        clear hty hiy h0
        go_wp2_with fail
        go_ret
        rw [HWo.out]
        refine ⟨rfl, (HX.out.1.then_below (HZ.out.1.trans (HzX.out.mono HZ.out.1.size))).trans HY.out.1 fun k hk hf => ?_, _, HY.out.2, fun k hk => ?_⟩
        · rcases HX.out.2.2.1 k hf with h | h
          · exact h
          · omega
        · rcases hk with hk | hk
          · exact HX.out.2.2.1 k hk
          · have h1 := HX.out.1.size
            have h2 := HZ.out.1.size
            have h3 := HzX.out.size
            exact .inr (by omega)
      · simp only [h0, if_false] at HWr
        have hne : ((0 : Int) != 0) = false := rfl
        apply Order.acts_any (R := (Turns F')) (fun h k => h.trans k fun _ _ h => h) (i := 13)
        · rfl
        · decide +kernel
        · rfl
        unfold Oper.wp
        go_simp
        refine HWr.out.mono ?_
        rintro e3 y ⟨rfl, hty, hiy⟩
        refine ⟨hty, ?_⟩
        refine Order.reads_any (idx := [14]) (by kernel_rfl) (Turns.refl _ _) (fun _ _ _ _ _ h => Order.noPanic_put h) 0 _ _ (by decide +kernel) ?_
        simp only [Order.pick, List.getElem?_toArray, List.getElem?_cons_zero, List.getElem?_cons_succ]
        repeat (first
          | (refine Order.reads_off (by rfl) ?_
             simp only [Act.put, List.setIfInBounds_toArray, List.set_cons_zero, List.set_cons_succ])
          | (apply Order.reads_on
             · rfl
             · intro x hx
               first
                 | (go_simp; rfl)
                 | (fail
                    go_simp; rfl)
             simp only [Act.put, List.setIfInBounds_toArray, List.set_cons_zero, List.set_cons_succ]))
        refine Order.reads_end ?_
        refine wpAnyH_done (by decide +kernel) ?_ _
        refine NoPanic.normal ?_
        have HY := Lib.hid (And.intro hty hiy)
        have HH := Lib.hid h0
        clear hty hiy h0
        go_wp2_with fail
        go_roundw
        case rel =>
          refine ⟨j + 1, t'.put (A : Nat) S8, _, by omega, by go_num, ⟨(HX.out.1.then_below (HZ.out.1.trans (HzX.out.mono HZ.out.1.size))).trans HY.out.1 fun k hk hf => ?_, HY.out.2, fun k hk => ?_, ?_⟩, Lib.hid ?_⟩
          · rcases HX.out.2.2.1 k hf with h | h
            · exact h
            · omega
          · rcases hk with hk | hk
            · exact HX.out.2.2.1 k hk
            · have h1 := HX.out.1.size
              have h2 := HZ.out.1.size
              have h3 := HzX.out.size
              exact .inr (by omega)
          · have h1 := HX.out.2.2.2
            unfold Tray.put
            rw [if_neg HH.out]
            simp only [List.length_append, List.length_singleton]
            omega
          · have h1 := HE.out
            rw [show o - j = (o - j - 1) + 1 by omega, wr_go HH.out, HSs.out, ← HAt.out.1] at h1
            rw [h1, show o - j - 1 = o - (j + 1) by omega]
        case measure => simp [intOf]; omega
    · obtain rfl : j = o := by omega
      rw [Nat.sub_self] at HE
      have hbx : SpB wr q p s := HT.out.1.turn HX.out.1 HS.out.2.2.1
      obtain ⟨k0, k1, k2, k3, k4, k5, k6⟩ := hbx.cells
      have HFl := Lib.hid (Ta.flush_any HX.out.2.1 (by have := HX.out.2.2.2; have := HS.out.2.2.2.2.2.2; omega))
      have HWo := Lib.hid (show wrote s b j t = (if t'.left = 0 then (t'.dim, false) else (t'.flush, true)) from by
        unfold wrote
        rw [HE.out]
        rfl)
      clear hbx
      by_cases h0 : t'.left = 0
      · simp only [h0, if_true] at HFl HWo
        have hne : ((20 : Int) == 0) = false := rfl
        have HH := Lib.hid h0
        clear h0
        go_wp2_with fail
        refine HFl.out.mono ?_
        rintro e3 y ⟨rfl, hty, hiy⟩
        have HY := Lib.hid (And.intro hty hiy)
        clear hty hiy
        go_wp2_with fail
        go_ret
        rw [HWo.out]
        refine ⟨rfl, HX.out.1.trans HY.out.1 fun k hk hf => ?_, F', ?_, HX.out.2.2.1⟩
        · rcases HX.out.2.2.1 k hf with h | h
          · exact h
          · omega
        · have h1 := HY.out.2
          unfold Tray.flush at h1
          rwa [if_pos HH.out] at h1
      · simp only [h0, if_false] at HFl HWo
        have hne : ((0 : Int) == 0) = true := rfl
        clear h0
        go_wp2_with fail
        refine HFl.out.mono ?_
        rintro e3 y ⟨rfl, hty, hiy⟩
        have HY := Lib.hid (And.intro hty hiy)
        clear hty hiy
        go_wp2_with fail
        go_ret
        rw [HWo.out]
        refine ⟨rfl, HX.out.1.trans HY.out.1 fun k hk hf => ?_, F', HY.out.2, HX.out.2.2.1⟩
        rcases HX.out.2.2.1 k hf with h | h
        · exact h
        · omega
end
end Sp
end Go.Proofs.Ytkfmmdiflbnhgaa

namespace Go.Proofs.Ytkfmmdiflbnhgaa
set_option maxRecDepth 100000
open Go.RowKit
open Knot (Turns NewRow)
open Ta (IsBytes Stay sec nul ptr IsT Tray)
namespace Sp
/-- What an append makes of tray and spool, and its error. -/
def append (s : S) (b : List UInt8) (t : Tray (List UInt8)) : Tray (List UInt8) × S × Int :=
  if 60000 < b.length then (t, s, 1) else if s.count + s.head < parts b.length + s.tail then (t, s, 3) else if s.dead then (t, s, 20) else
    if (wrote s b (parts b.length) t).2 then ((wrote s b (parts b.length) t).1, { s with tail := s.tail + parts b.length }, 0) else ((wrote s b (parts b.length) t).1, { s with dead := true }, 20)
section
variable {w : World} {q p n : Nat} {s : S} {t : Tray (List UInt8)} {F : Nat → Prop}
theorem append_long {b : List UInt8} (h : 60000 < b.length) : append s b t = (t, s, 1) := if_pos h
theorem append_full {b : List UInt8} (h : ¬ 60000 < b.length) (h2 : s.count + s.head < parts b.length + s.tail) : append s b t = (t, s, 3) := by rw [append, if_neg h, if_pos h2]
theorem append_dead {b : List UInt8} (h : ¬ 60000 < b.length) (h2 : ¬ s.count + s.head < parts b.length + s.tail) (h3 : s.dead = true) : append s b t = (t, s, 20) := by rw [append, if_neg h, if_neg h2, if_pos h3]
theorem append_goes {b : List UInt8} (h : ¬ 60000 < b.length) (h2 : ¬ s.count + s.head < parts b.length + s.tail) (h3 : s.dead = false) (h4 : (wrote s b (parts b.length) t).2 = true) : append s b t = ((wrote s b (parts b.length) t).1, { s with tail := s.tail + parts b.length }, 0) := by
  rw [append, if_neg h, if_neg h2, if_neg (by simp [h3]), if_pos h4]
theorem append_stops {b : List UInt8} (h : ¬ 60000 < b.length) (h2 : ¬ s.count + s.head < parts b.length + s.tail) (h3 : s.dead = false) (h4 : (wrote s b (parts b.length) t).2 = false) : append s b t = ((wrote s b (parts b.length) t).1, { s with dead := true }, 20) := by
  rw [append, if_neg h, if_neg h2, if_neg (by simp [h3]), if_neg (by simp [h4])]
set_option maxHeartbeats 16000000 in
set_option maxRecDepth 100000 in
theorem append_any (v : Value) (b : List UInt8) (h : SpB w q p s) (hs : Fits s) (ht : IsT w p n t F) (hn : s.first + s.count ≤ n) (hq : ¬ F q) (hv : Stay F w fun x => IsBytes x v b) (hb : b.length ≤ 1000000) (hc : t.cache.length ≤ 90000) :
    Calls Try.prog 23 #[ptr q, v] w fun e x => e = .returned (.int .i64 (append s b t).2.2) ∧ Turns (fun k => F k ∨ k = q) w x ∧ SpB x q p (append s b t).2.1 ∧ ∃ F', IsT x p n (append s b t).1 F' ∧ (∀ k, F' k → F k ∨ w.heap.size ≤ k) := by
  have HS := Lib.hid (And.intro h (And.intro hs (And.intro ht (And.intro hn (And.intro hq (And.intro hv hc))))))
  obtain ⟨va, vc, rfl, -⟩ := hv.now
  have HPa := Lib.hid (fun x => parts_any b.length (by omega) x)
  have hsame : ∀ x, Below w.heap.size w x → Turns (fun k => F k ∨ k = q) w x ∧ SpB x q p s ∧ ∃ F', IsT x p n t F' ∧ (∀ k, F' k → F k ∨ w.heap.size ≤ k) := fun x hx => ⟨Turns.of_below hx, h.on hx, F, ht.below hx, fun _ h => .inl h⟩
  have HSame := Lib.hid hsame
  have htl := hs.tail
  have hhd := hs.head
  have hct := hs.count
  clear hsame h ht hn hq hv hc
  have hp1 : parts b.length = max 1 ((b.length + 107) / 108) := rfl
  have hpb : parts b.length ≤ 10000 := by omega
  have HPb := Lib.hid hp1
  clear hp1
  by_cases hlong : 60000 < b.length
  · rw [append_long hlong]
    have e1 : (60000 : Int) < (b.length : Int) := by omega
    clear hlong
    go_enter Try.func23, Try.ntmps23
    go_wp2_with fail
    refine (HPa.out w).mono ?_
    rintro e x ⟨rfl, hx⟩
    rw [hx]
    clear hx x
    go_wp2_with fail
    go_ret
    exact ⟨rfl, HSame.out w (Below.refl _ _)⟩
  · have e1 : ¬ (60000 : Int) < (b.length : Int) := by omega
    have hpo : parts b.length ≤ 4096 := by have := HPb.out; omega
    generalize hpq : parts b.length = P at *
    have HPq := Lib.hid hpq
    have HRo := Lib.hid (room_any HS.out.1 HS.out.2.1)
    by_cases hfull : s.count + s.head < P + s.tail
    · rw [append_full hlong (by rw [hpq]; exact hfull)]
      have e2 : (s.count : Int) - ((s.tail : Int) - (s.head : Int)) < (P : Int) := by omega
      clear hlong hfull hpq
      go_enter Try.func23, Try.ntmps23
      go_wp2_with fail
      refine (HPa.out w).mono ?_
      rintro e x ⟨rfl, hx⟩
      rw [hx]
      clear hx x
      go_wp2_with fail
      refine HRo.out.mono ?_
      rintro e x ⟨rfl, hx⟩
      have HX := Lib.hid (HSame.out x hx)
      clear hx
      go_wp2_with fail
      go_ret
      exact ⟨rfl, HX.out⟩
    · have e2 : ¬ (s.count : Int) - ((s.tail : Int) - (s.head : Int)) < (P : Int) := by omega
      have HCl := Lib.hid (show ∀ x, Below w.heap.size w x → _ from fun x hx => (HS.out.1.on hx).cells)
      by_cases hdead : s.dead = true
      · rw [append_dead hlong (by rw [hpq]; exact hfull) hdead]
        clear hlong hfull hpq
        go_enter Try.func23, Try.ntmps23
        go_wp2_with fail
        refine (HPa.out w).mono ?_
        rintro e x ⟨rfl, hx⟩
        rw [hx]
        clear hx x
        go_wp2_with fail
        refine HRo.out.mono ?_
        rintro e x ⟨rfl, hx⟩
        have HX := Lib.hid (HSame.out x hx)
        obtain ⟨-, -, -, -, -, -, k6⟩ := HCl.out x hx
        rw [hdead] at k6
        clear hx
        go_wp2_with fail
        go_ret
        exact ⟨rfl, HX.out⟩
      · have hd : s.dead = false := by simpa using hdead
        have HWr := Lib.hid (show ∀ x, Below w.heap.size w x → _ from fun x hx => write_any (.slice va b.length vc) b P (HS.out.1.on hx) HS.out.2.1 (HS.out.2.2.1.below hx) HS.out.2.2.2.1 HS.out.2.2.2.2.1 (HS.out.2.2.2.2.2.1.below hx) (by omega) hpo (by have := HPb.out; omega) (by have := HS.out.2.2.2.2.2.2; omega))
        go_enter Try.func23, Try.ntmps23
        go_wp2_with fail
        refine (HPa.out w).mono ?_
        rintro e x ⟨rfl, hx⟩
        rw [hx]
        clear hx x
        have HNo := Lib.hid (And.intro hlong (And.intro hfull (And.intro hd hpq)))
        clear hlong hfull hdead hpq
        go_wp2_with fail
        refine HRo.out.mono ?_
        rintro e x ⟨rfl, hx⟩
        obtain ⟨-, -, -, -, -, -, k6⟩ := HCl.out x hx
        rw [hd] at k6
        have HX := Lib.hid hx
        clear hx hd
        go_wp2_with fail
        clear k6
        refine (HWr.out x HX.out).mono ?_
        rintro e y ⟨rfl, hty, F', hiy, hF'⟩
        have hwy : Turns F w y := Turns.after_below HX.out hty
        have hby : SpB y q p s := HS.out.1.turn hwy HS.out.2.2.2.2.1
        obtain ⟨c0, c1, c2, c3, c4, c5, c6⟩ := hby.cells
        have f4 := hby.free 4
        have f6 := hby.free 6
        have hqF' : ¬ F' q := fun h => by
          rcases hF' q h with h | h
          · exact HS.out.2.2.2.2.1 h
          · have := HS.out.1.lt; have := HX.out.size; omega
        have HY := Lib.hid (And.intro hwy (And.intro hby (And.intro hiy (And.intro hqF' (show ∀ k, F' k → F k ∨ w.heap.size ≤ k from fun k hk => (hF' k hk).imp id fun h => Nat.le_trans HX.out.size h)))))
        clear hty hwy hby hiy hqF' hF'
        obtain ⟨ok, hok⟩ : ∃ ok : Bool, ok = (wrote s b P t).2 := ⟨_, rfl⟩
        rw [← hok]
        cases ok with
        | true =>
          have hw : IntKind.i64.wrap ((s.tail : Int) + (P : Int)) = (s.tail : Int) + (P : Int) := by rw [IntKind.wrap_i64] <;> omega
          have HG := Lib.hid (append_goes (t := t) HNo.out.1 (by rw [HNo.out.2.2.2]; exact HNo.out.2.1) HNo.out.2.2.1 (by rw [HNo.out.2.2.2]; exact hok.symm))
          clear hok
          obtain ⟨N, hN⟩ : ∃ N, N = y.setCell ⟨q, 4, none⟩ (.int .i64 ((s.tail : Int) + (P : Int))) := ⟨_, rfl⟩
          have ht := turn1 y q 4 (.int .i64 ((s.tail : Int) + (P : Int)))
          have hb := HY.out.2.1.set 4 (.int .i64 ((s.tail : Int) + (P : Int)))
          rw [← hN] at ht hb
          have HN := Lib.hid (And.intro ht hb)
          clear ht hb
          go_wp2_with fail
          rw [← hN]
          go_ret
          rw [HG.out]
          refine ⟨rfl, (HY.out.1.mono fun _ _ h => .inl h).trans HN.out.1 fun k _ e => .inr e, ?_, F', by rw [HNo.out.2.2.2]; exact HY.out.2.2.1.turn HN.out.1 fun k hk e => HY.out.2.2.2.1 (e ▸ hk), HY.out.2.2.2.2⟩
          unfold SpB
          rw [HN.out.2, HNo.out.2.2.2]
          simp [boxS]
        | false =>
          have HG := Lib.hid (append_stops (t := t) HNo.out.1 (by rw [HNo.out.2.2.2]; exact HNo.out.2.1) HNo.out.2.2.1 (by rw [HNo.out.2.2.2]; exact hok.symm))
          clear hok
          obtain ⟨N, hN⟩ : ∃ N, N = y.setCell ⟨q, 6, none⟩ (.bool true) := ⟨_, rfl⟩
          have ht := turn1 y q 6 (.bool true)
          have hb := HY.out.2.1.set 6 (.bool true)
          rw [← hN] at ht hb
          have HN := Lib.hid (And.intro ht hb)
          clear ht hb
          go_wp2_with fail
          rw [← hN]
          go_ret
          rw [HG.out]
          refine ⟨rfl, (HY.out.1.mono fun _ _ h => .inl h).trans HN.out.1 fun k _ e => .inr e, ?_, F', by rw [HNo.out.2.2.2]; exact HY.out.2.2.1.turn HN.out.1 fun k hk e => HY.out.2.2.2.1 (e ▸ hk), HY.out.2.2.2.2⟩
          unfold SpB
          rw [HN.out.2]
          simp [boxS]
end
end Sp
end Go.Proofs.Ytkfmmdiflbnhgaa
