/-
  Layer 14: the program's image: the one that a mark tells of.
-/
import Derived.Test.YtkfmmdiflbnhgaaHoPut
import Derived.Test.YtkfmmdiflbnhgaaSpRec
namespace Go.Proofs.Ytkfmmdiflbnhgaa
set_option maxRecDepth 100000
open Go.RowKit
open Knot (Turns)
open Ta (IsBytes Stay sec nul ptr IsT C5 Tray)
open Tr (own_turn own_below own_slice)
open Sp (Blk walk_bytes)
namespace Ho
/-- So many sectors, from a on. -/
def secs (t : Tray (List UInt8)) (a k : Nat) : List UInt8 := (List.range k).flatMap fun i => t.read nul ((a + i : Nat) : Int)
/-- The first bytes of the sectors from a on. -/
def imgT (t : Tray (List UInt8)) (a L : Nat) : List UInt8 := (secs t a ((L + 127) / 128)).take L
section
variable {t : Tray (List UInt8)} {a : Nat}
theorem secs_succ (k : Nat) : secs t a (k + 1) = secs t a k ++ t.read nul ((a + k : Nat) : Int) := by simp [secs, List.range_succ]
theorem secs_len (hl : ∀ z, (t.read nul z).length = 128) (k : Nat) : (secs t a k).length = k * 128 := by
  induction k with
  | zero => rfl
  | succ k ih => rw [secs_succ, List.length_append, ih, hl]; omega
theorem img_succ (hl : ∀ z, (t.read nul z).length = 128) {k L : Nat} (hk : k * 128 ≤ L) : (secs t a (k + 1)).take L = (secs t a k).take L ++ (t.read nul ((a + k : Nat) : Int)).take (min 128 (L - k * 128)) := by
  have h1 := secs_len (a := a) hl k
  rw [secs_succ, List.take_append, h1, List.take_of_length_le (by omega : (secs t a k).length ≤ L)]
  congr 1
  by_cases h : L - k * 128 ≤ 128
  · rw [Nat.min_eq_right h]
  · rw [Nat.min_eq_left (by omega), List.take_of_length_le (by rw [hl]; omega), List.take_of_length_le (by rw [hl]; exact Nat.le_refl _)]
end
theorem take_slice (G m : Nat) (hm : m ≤ 128) (W : World) : (Instr.sliceAt 22 (.slice (some ⟨G, 0, none⟩) 128 128) none (some (.int .i64 (m : Int))) none).run Try.prog W = .ok (.slice (some ⟨G, 0, none⟩) m 128) W := by
  have hel : Try.prog.underlying 22 = some (.slice (Try.prog.elem 22)) := by kernel_rfl
  have hz : ∀ W, (sizeOf (Try.prog.elem 22)).run Try.prog W = .ok 1 W := fun w => by kernel_rfl
  rw [run_sliceAt_slice (P := Try.prog) W _ _ _ _ _ hel, run_slice_h (P := Try.prog) W _ (some ⟨G, 0, none⟩) 128 128 hel .i64 (m : Int) (by omega) (by omega), hz]
  simp [Result.andThen_ok, sliced, Addr.add]
section
variable {w : World} {p n : Nat} {t : Tray (List UInt8)} {F : Nat → Prop}
set_option maxHeartbeats 16000000 in
set_option maxRecDepth 100000 in
theorem image_any (m0 m1 m2 m3 m4 : Nat) (h : IsT w p n t F) (h64 : 64 ≤ n) (hm2 : m2 ≤ 1) (hm3 : m3 ≤ qu n * 128) :
    Calls Try.prog 75 #[dkV p (qu n), .agg (mcs [m0, m1, m2, m3, m4])] w fun e x => ∃ v, e = .returned v ∧ Below w.heap.size w x ∧ Stay (fun k => k < w.heap.size) x fun y => IsBytes y v (imgT t (2 + m2 * qu n) m3) := by
  have hn := h.num
  have hq : qu n = (n - 2) / 4 := rfl
  have hrl : ∀ z, (t.read nul z).length = 128 := fun z => Ta.read_len h z
  have HFi := Lib.hid (fun x => dfirst_any (p := p) (s := qu n) m2 (by omega) (by omega) x)
  have ha1 : 2 + m2 * qu n + qu n ≤ n := by
    have : m2 * qu n ≤ 1 * qu n := Nat.mul_le_mul_right _ hm2
    omega
  obtain ⟨a, ha⟩ : ∃ a, a = 2 + m2 * qu n := ⟨_, rfl⟩
  rw [← ha] at HFi ha1 ⊢
  clear ha
  generalize qu n = s at *
  obtain ⟨W, hW⟩ : ∃ W, W = (w.alloc (.cells #[ptr p, .int .i64 (s : Int)] tDk)).alloc (.cells #[.int .i64 (m0 : Int), .int .i64 (m1 : Int), .int .i64 (m2 : Int), .int .i64 (m3 : Int), .int .i64 (m4 : Int)] tPm) := ⟨_, rfl⟩
  have HW := Lib.hid (show Below w.heap.size w W ∧ W.heap[w.heap.size]? = some (.cells #[ptr p, .int .i64 (s : Int)] tDk (0, 0)) ∧ C5 (w.heap.size + 1) tPm (.int .i64 (m0 : Int)) (.int .i64 (m1 : Int)) (.int .i64 (m2 : Int)) (.int .i64 (m3 : Int)) (.int .i64 (m4 : Int)) W from by
    rw [hW]
    have h1 := heap_alloc_new w (.cells #[ptr p, .int .i64 (s : Int)] tDk)
    have h1' := (((Below.refl (w.alloc (.cells #[ptr p, .int .i64 (s : Int)] tDk)).heap.size (w.alloc (.cells #[ptr p, .int .i64 (s : Int)] tDk))).alloc (Nat.le_refl _) (.cells #[.int .i64 (m0 : Int), .int .i64 (m1 : Int), .int .i64 (m2 : Int), .int .i64 (m3 : Int), .int .i64 (m4 : Int)] tPm)).block w.heap.size (by simp)).trans h1
    have h2 := heap_alloc_new (w.alloc (.cells #[ptr p, .int .i64 (s : Int)] tDk)) (.cells #[.int .i64 (m0 : Int), .int .i64 (m1 : Int), .int .i64 (m2 : Int), .int .i64 (m3 : Int), .int .i64 (m4 : Int)] tPm)
    rw [show (w.alloc (.cells #[ptr p, .int .i64 (s : Int)] tDk)).heap.size = w.heap.size + 1 by simp] at h2
    exact ⟨((Below.refl _ _).alloc (Nat.le_refl _) _).alloc (by simp) _, h1', h2⟩)
  have HR := Lib.hid (show ∀ (k : Nat) x, a + k < n → Below w.heap.size w x → _ from fun k x hk hx => Ta.tread_any ((a + k : Nat) : Int) (h.below hx) (by omega) (by omega))
  have HL := Lib.hid (And.intro hrl (And.intro hq hm3))
  clear h hrl hq
  rw [mcs5]
  unfold dkV at *
  go_enter Try.func75, Try.ntmps75
  go_upto_region 1 with fail
  change Code.wp _ _ _ _ ((w.alloc (.cells #[ptr p, .int .i64 (s : Int)] tDk)).alloc (.cells #[.int .i64 (m0 : Int), .int .i64 (m1 : Int), .int .i64 (m2 : Int), .int .i64 (m3 : Int), .int .i64 (m4 : Int)] tPm))
  rw [← hW]
  clear hW
  have d0 := Lib.cell_of_heap HW.out.2.1 0
  have d1 := Lib.cell_of_heap HW.out.2.1 1
  simp only [List.getElem?_toArray, List.getElem?_cons_zero, List.getElem?_cons_succ] at d0 d1
  obtain ⟨c0, c1, c2, c3, c4⟩ := HW.out.2.2.cells
  go_wp2_with fail
  refine (HFi.out W).mono ?_
  rintro e x1 ⟨rfl, hx1⟩
  have HX := Lib.hid hx1
  clear hx1 d0 d1 c0 c1 c2 c3 c4 HFi
  go_wp2_with fail
  go_loopw [5, 6] (fun r vi x => ∃ k : Nat, k ≤ (m3 + 127) / 128 ∧ vi = .int .i64 ((a + k : Nat) : Int) ∧ Hid (Below W.heap.size W x ∧ x.ownsRow W.heap.size Ta.tBy 1 r ((secs t a k).take m3).length (Lib.byteCells ((secs t a k).take m3)))) (fun _ vi _ => 100000 - (intOf vi).toNat)
  case atStart => exact ⟨0, Nat.zero_le _, by simp, HX.out, by rw [show (secs t a 0).take m3 = [] from List.take_nil]; exact World.ownsRow_nil _ _ _ _⟩
  case round =>
    obtain ⟨k, hk, rfl, HI⟩ := hrel
    have hsl := secs_len (a := a) HL.out.1 k
    have hkd := HW.out.2.1
    have d0 := Lib.cell_of_heap ((HI.out.1.block _ (Array.getElem?_eq_some_iff.1 hkd).1).trans hkd) 0
    have d1 := Lib.cell_of_heap ((HI.out.1.block _ (Array.getElem?_eq_some_iff.1 hkd).1).trans hkd) 1
    simp only [List.getElem?_toArray, List.getElem?_cons_zero, List.getElem?_cons_succ] at d0 d1
    obtain ⟨c0, c1, c2, c3, c4⟩ := (HW.out.2.2.on HI.out.1).cells
    obtain ⟨ra, rc, rfl⟩ := own_slice HI.out.2
    by_cases hlt : k < (m3 + 127) / 128
    · have hlen : ((secs t a k).take m3).length = k * 128 := by rw [List.length_take, hsl]; omega
      have hsc := img_succ (a := a) HL.out.1 (show k * 128 ≤ m3 by omega)
      have HRk := Lib.hid (HR.out k wr (by have := HL.out; omega) (HW.out.1.trans (HI.out.1.mono HW.out.1.size)))
      have hb8 := HL.out.1 ((a + k : Nat) : Int)
      have HSc := Lib.hid hsc
      clear hsc
      generalize hl2 : (secs t a (k + 1)).take m3 = l2 at *
      have HL2 := Lib.hid hl2
      clear hl2
      generalize (secs t a k).take m3 = l at *
      generalize t.read nul ((a + k : Nat) : Int) = rb at *
      rw [hlen] at HI ⊢
      have HLn := Lib.hid hlen
      clear hlen hsl
      have e1 : (k : Int) * 128 < (m3 : Int) := by omega
      have h00 : ((0 : Int) != 0) = false := rfl
      go_wp2_with fail
      refine HRk.out.mono ?_
      rintro e x2 ⟨rfl, hx2, hb2⟩
      have HV := Lib.hid (show Below W.heap.size W x2 ∧ x2.ownsRow W.heap.size Ta.tBy 1 (.slice ra (k * 128) rc) l.length (Lib.byteCells l) from ⟨HI.out.1.trans (hb2.mono HI.out.1.size), by rw [HLn.out]; exact own_below HI.out.2 hb2⟩)
      have hbk : Blk x2 wr.heap.size Ta.tSe rb := hx2
      have hbs := hbk.bytes (o := 0) (m := min 128 (m3 - k * 128)) (cap := 128) (by rw [hb8]; omega) (by omega) (by unfold maxLen; omega)
      rw [List.drop_zero] at hbs
      generalize wr.heap.size = G at *
      obtain ⟨c0, c1, c2, c3, c4⟩ := (HW.out.2.2.on HV.out.1).cells
      have HBs := Lib.hid hbs
      clear hx2 hb2 hbk hbs HI HRk d0 d1
      by_cases hm : 128 ≤ m3 - k * 128
      · rw [Nat.min_eq_left hm] at HBs HSc
        have e2 : ¬ (m3 : Int) - (k : Int) * 128 < 128 := by omega
        have hts := take_slice G 128 (by omega)
        rw [show ((128 : Nat) : Int) = 128 from rfl] at hts
        have hll : ((k * 128 : Nat) : Int) = (k : Int) * 128 := by omega
        go_wp2_with (at_builtin; refine walk_bytes rfl _ _ rfl rfl rfl HV.out.2 HV.out.1.size HBs.out (by have := HLn.out; have := HL.out; rw [List.length_take]; omega) ?_)
        intro r' y o5 g5
        have HO := Lib.hid (show Below W.heap.size W y ∧ y.ownsRow W.heap.size Ta.tBy 1 r' l2.length (Lib.byteCells l2) from ⟨HV.out.1.grown g5 HV.out.1.size fun k hk => (HV.out.2.lt k hk).1, by rw [HSc.out]; simp only [List.length_append, List.length_take, hb8, Nat.min_self]; exact o5⟩)
        clear o5 g5 c0 c1 c2 c3 c4
        go_wp2_with fail
        go_roundw
        case rel => exact ⟨k + 1, by omega, by go_num, HO.out.1, by rw [HL2.out]; exact HO.out.2⟩
        case measure => simp [intOf]; omega
      · rw [Nat.min_eq_right (by omega)] at HBs HSc
        have e2 : (m3 : Int) - (k : Int) * 128 < 128 := by omega
        have hts := take_slice G (m3 - k * 128) (by omega)
        rw [show ((m3 - k * 128 : Nat) : Int) = (m3 : Int) - (k : Int) * 128 by omega] at hts
        have hll : ((k * 128 : Nat) : Int) = (k : Int) * 128 := by omega
        go_wp2_with (at_builtin; refine walk_bytes rfl _ _ rfl rfl rfl HV.out.2 HV.out.1.size HBs.out (by have := HLn.out; have := HL.out; rw [List.length_take]; omega) ?_)
        intro r' y o5 g5
        have HO := Lib.hid (show Below W.heap.size W y ∧ y.ownsRow W.heap.size Ta.tBy 1 r' l2.length (Lib.byteCells l2) from ⟨HV.out.1.grown g5 HV.out.1.size fun k hk => (HV.out.2.lt k hk).1, by rw [HSc.out]; simp only [List.length_append, List.length_take, hb8]; exact o5⟩)
        clear o5 g5 c0 c1 c2 c3 c4
        go_wp2_with fail
        go_roundw
        case rel => exact ⟨k + 1, by omega, by go_num, HO.out.1, by rw [HL2.out]; exact HO.out.2⟩
        case measure => simp [intOf]; omega
    · obtain rfl : k = (m3 + 127) / 128 := by omega
      have hlen : ((secs t a ((m3 + 127) / 128)).take m3).length = m3 := by rw [List.length_take, hsl]; omega
      have HIm := Lib.hid (show imgT t a m3 = (secs t a ((m3 + 127) / 128)).take m3 from rfl)
      generalize (secs t a ((m3 + 127) / 128)).take m3 = l at *
      have hst := Ta.own_bytes (F := fun k => k < w.heap.size) HI.out.2 fun k hk => Nat.lt_of_lt_of_le hk HW.out.1.size
      have HE := Lib.hid (show Below w.heap.size w wr ∧ Stay (fun k => k < w.heap.size) wr fun y => IsBytes y (.slice ra m3 rc) l from ⟨HW.out.1.trans (HI.out.1.mono HW.out.1.size), by rw [hlen] at hst; exact hst⟩)
      rw [hlen]
      clear hst HI hsl
      have e1 : ¬ (m3 : Int) < (m3 : Int) := by omega
      go_wp2_with fail
      go_ret
      exact ⟨_, rfl, HE.out.1, by rw [HIm.out]; exact HE.out.2⟩
end
end Ho
end Go.Proofs.Ytkfmmdiflbnhgaa
