/-
  Layer 14: the program's disk: divided, its fields, its ring; a mark's place, and the next one.
-/
import Derived.Test.YtkfmmdiflbnhgaaHoGet
import Derived.Test.YtkfmmdiflbnhgaaSgpB
namespace Go.Proofs.Ytkfmmdiflbnhgaa
set_option maxRecDepth 100000
open Go.RowKit
open Knot (Turns)
open Ta (IsBytes sec nul ptr IsT C5)
namespace Ho
abbrev tDk : TypeId := 123
/-- A disk. -/
def dkV (p s : Nat) : Value := .agg #[ptr p, .int .i64 (s : Int)]
/-- A field's sectors. -/
def qu (n : Nat) : Nat := (n - 2) / 4
section
variable {w : World} {p n s : Nat} {t : Ta.Tray (List UInt8)} {F : Nat → Prop}
theorem build_dk0 (W : World) : (Instr.build tDk #[]).run Try.prog W = .ok (.agg #[.pointer none, .int .i64 0]) W := by kernel_rfl
theorem build_dk (p : Nat) (b : Int) (W : World) : (Instr.build tDk #[(0, ptr p), (1, .int .i64 b)]).run Try.prog W = .ok (.agg #[ptr p, .int .i64 b]) W := by kernel_rfl
theorem build_rg (a b : Int) (W : World) : (Instr.build 28 #[(0, .int .i64 a), (1, .int .i64 b)]).run Try.prog W = .ok (.agg #[.int .i64 a, .int .i64 b]) W := by kernel_rfl
set_option maxHeartbeats 4000000 in
set_option maxRecDepth 100000 in
theorem divide_any (h : IsT w p n t F) : Calls Try.prog 63 #[ptr p] w fun e x => e = .returned (if n < 64 then .tuple #[.agg #[.pointer none, .int .i64 0], .bool false] else .tuple #[dkV p (qu n), .bool true]) ∧ Below w.heap.size w x := by
  have hn := h.num
  have hal : Below w.heap.size w (w.alloc (.cells #[.pointer none, .int .i64 0] tDk)) := (Below.refl _ _).alloc (Nat.le_refl _) _
  have HS := Lib.hid (Ta.sectors_any (h.below hal))
  clear hal h
  have hb0 := build_dk0
  have hb1 := build_dk
  by_cases h64 : n < 64
  · rw [if_pos h64]
    have hlt : (n : Int) < 64 := by omega
    clear hb1
    go_enter Try.func63, Try.ntmps63
    go_wp2_with fail
    refine HS.out.mono ?_
    rintro e x ⟨rfl, hx⟩
    rw [hx]
    clear hx x
    go_wp2_with fail
    have hh := heap_alloc_new w (.cells #[.pointer none, .int .i64 0] tDk)
    exact bodyPost_ret (v := .tuple #[.agg #[.pointer none, .int .i64 0], .bool false]) (by simp [results, Try.results63, go_sem, Lib.cell_of_heap hh]) rfl ⟨rfl, (Below.refl _ _).alloc (Nat.le_refl _) _⟩
  · rw [if_neg h64]
    have hlt : ¬ (n : Int) < 64 := by omega
    go_enter Try.func63, Try.ntmps63
    go_wp2_with fail
    refine HS.out.mono ?_
    rintro e x ⟨rfl, hx⟩
    rw [hx]
    clear hx x
    have ht : ((n : Int) - 2).tdiv 4 = (qu n : Int) := by unfold qu; rw [Int.tdiv_eq_ediv_of_nonneg (by omega)]; omega
    have he : ((n : Int) - 2) / 4 = (qu n : Int) := by unfold qu; omega
    have hge : (2 : Int) ≤ (n : Int) := by omega
    have hw : IntKind.i64.wrap ((n : Int) - 2) = (n : Int) - 2 := by rw [IntKind.wrap_i64] <;> omega
    go_wp2_with fail
    refine HS.out.mono ?_
    rintro e x ⟨rfl, hx⟩
    rw [hx]
    clear hx x HS
    go_wp2_with fail
    have hh := heap_alloc_new w (.cells #[ptr p, .int .i64 (qu n : Int)] tDk)
    exact bodyPost_ret (v := .tuple #[dkV p (qu n), .bool true]) (by simp [results, Try.results63, go_sem, Lib.cell_of_heap hh, dkV, ptr] at hh ⊢) rfl ⟨rfl, (Below.refl _ _).alloc (Nat.le_refl _) _⟩
set_option maxHeartbeats 4000000 in
set_option maxRecDepth 100000 in
theorem dmost_any (hs : s ≤ 4096) (w : World) : Calls Try.prog 65 #[dkV p s] w fun e x => e = .returned (.int .i64 ((s * 128 : Nat) : Int)) ∧ Below w.heap.size w x := by
  have hal : Below w.heap.size w (w.alloc (.cells #[ptr p, .int .i64 (s : Int)] tDk)) := (Below.refl _ _).alloc (Nat.le_refl _) _
  unfold dkV
  go_enter Try.func65, Try.ntmps65
  go_wp2_with fail
  go_ret
  exact ⟨by rw [Int.natCast_mul]; rfl, hal⟩
set_option maxHeartbeats 4000000 in
set_option maxRecDepth 100000 in
theorem dfirst_any (f : Nat) (hs : s ≤ 4096) (hf : f ≤ 2) (w : World) : Calls Try.prog 84 #[dkV p s, .int .i64 (f : Int)] w fun e x => e = .returned (.int .i64 ((2 + f * s : Nat) : Int)) ∧ Below w.heap.size w x := by
  have hal : Below w.heap.size w (w.alloc (.cells #[ptr p, .int .i64 (s : Int)] tDk)) := (Below.refl _ _).alloc (Nat.le_refl _) _
  have hfs : f * s ≤ 2 * 4096 := Nat.mul_le_mul hf hs
  have e0 : (f : Int) * (s : Int) = ((f * s : Nat) : Int) := (Int.natCast_mul f s).symm
  have w1 : IntKind.i64.wrap ((f : Int) * (s : Int)) = ((f * s : Nat) : Int) := by rw [e0, IntKind.wrap_i64] <;> omega
  generalize f * s = M at *
  unfold dkV
  go_enter Try.func84, Try.ntmps84
  go_wp2_with fail
  go_ret
  exact ⟨by first | rfl | (rw [e0]; rfl) | (simp; omega), hal⟩
set_option maxHeartbeats 4000000 in
set_option maxRecDepth 100000 in
theorem dring_any (h : IsT w p n t F) (h64 : 64 ≤ n) : Calls Try.prog 66 #[dkV p (qu n)] w fun e x => e = .returned (.agg #[.int .i64 ((2 + 2 * qu n : Nat) : Int), .int .i64 ((n - (2 + 2 * qu n) : Nat) : Int)]) ∧ Below w.heap.size w x := by
  have hn := h.num
  have hq : qu n = (n - 2) / 4 := rfl
  have a1 : Below w.heap.size w ((w.alloc (.cells #[ptr p, .int .i64 (qu n : Int)] tDk)).alloc (.cells #[.int .i64 0, .int .i64 0] 28)) := ((Below.refl _ _).alloc (Nat.le_refl _) _).alloc (by simp) _
  have HA := Lib.hid a1
  have HF := Lib.hid (fun x => dfirst_any (p := p) (s := qu n) 2 (by omega) (by omega) x)
  have hle : 2 + 2 * qu n ≤ n := by omega
  rw [show ((n - (2 + 2 * qu n) : Nat) : Int) = (n : Int) - ((2 + 2 * qu n : Nat) : Int) by omega]
  obtain ⟨f, hf⟩ : ∃ f, f = 2 + 2 * qu n := ⟨_, rfl⟩
  rw [← hf] at HF hle ⊢
  have HS := Lib.hid (show ∀ x, Below w.heap.size w x → _ from fun x hx => Ta.sectors_any (h.below hx))
  have hb1 := build_rg
  have HW := Lib.hid (show ∀ x, Below ((w.alloc (.cells #[ptr p, .int .i64 (qu n : Int)] tDk)).alloc (.cells #[.int .i64 0, .int .i64 0] 28)).heap.size ((w.alloc (.cells #[ptr p, .int .i64 (qu n : Int)] tDk)).alloc (.cells #[.int .i64 0, .int .i64 0] 28)) x → x.heap[w.heap.size]? = some (.cells #[ptr p, .int .i64 (qu n : Int)] tDk (0, 0)) ∧ x.heap[w.heap.size + 1]? = some (.cells #[.int .i64 0, .int .i64 0] 28 (0, 0)) from fun x hx => by
    have h1 := heap_alloc_new w (.cells #[ptr p, .int .i64 (qu n : Int)] tDk)
    have h2 := heap_alloc_new (w.alloc (.cells #[ptr p, .int .i64 (qu n : Int)] tDk)) (.cells #[.int .i64 0, .int .i64 0] 28)
    rw [show (w.alloc (.cells #[ptr p, .int .i64 (qu n : Int)] tDk)).heap.size = w.heap.size + 1 by simp] at h2
    have h1' := (((Below.refl (w.alloc (.cells #[ptr p, .int .i64 (qu n : Int)] tDk)).heap.size (w.alloc (.cells #[ptr p, .int .i64 (qu n : Int)] tDk))).alloc (Nat.le_refl _) (.cells #[.int .i64 0, .int .i64 0] 28)).block w.heap.size (by simp)).trans h1
    exact ⟨(hx.block w.heap.size (by simp; omega)).trans h1', (hx.block (w.heap.size + 1) (by simp)).trans h2⟩)
  clear h a1 hq hf
  generalize qu n = s at *
  unfold dkV at *
  go_enter Try.func66, Try.ntmps66
  go_wp2_with fail
  refine (HF.out _).mono ?_
  rintro e x ⟨rfl, hx⟩
  obtain ⟨k1, k2⟩ := HW.out x hx
  have HX := Lib.hid (And.intro (HA.out.trans (hx.mono HA.out.size)) k2)
  have HSx := Lib.hid (HS.out x HX.out.1)
  have c0 := Lib.cell_of_heap k1 0
  have d0 := Lib.cell_of_heap k2 0
  have d1 := Lib.cell_of_heap k2 1
  have f0 := Lib.frozen_of_heap k2 0
  have f1 := Lib.frozen_of_heap k2 1
  simp only [List.getElem?_toArray, List.getElem?_cons_zero, List.getElem?_cons_succ] at c0 d0 d1
  clear hx k1 k2 HF HS HW HA
  have hw : IntKind.i64.wrap ((n : Int) - (f : Int)) = (n : Int) - (f : Int) := by rw [IntKind.wrap_i64] <;> omega
  go_wp2_with fail
  refine HSx.out.mono ?_
  rintro e y ⟨rfl, hy⟩
  rw [hy]
  clear hy HSx
  go_wp2_with fail
  have r1 := heap_setCell_same x (w.heap.size + 1) 0 _ _ (.int .i64 (f : Int)) HX.out.2
  have r2 := heap_setCell_same (x.setCell ⟨w.heap.size + 1, 0, none⟩ (.int .i64 (f : Int))) (w.heap.size + 1) 1 _ _ (.int .i64 ((n : Int) - (f : Int))) r1
  have ht : Turns (fun k => k = w.heap.size + 1) x ((x.setCell ⟨w.heap.size + 1, 0, none⟩ (.int .i64 (f : Int))).setCell ⟨w.heap.size + 1, 1, none⟩ (.int .i64 ((n : Int) - (f : Int)))) :=
    ((Turns.refl (fun k => k = w.heap.size + 1) x).setCell (p := ⟨w.heap.size + 1, 0, none⟩) rfl _).setCell (p := ⟨w.heap.size + 1, 1, none⟩) rfl _
  have hB := Lib.hid (HX.out.1.trans (ht.below HX.out.1.size fun k e => by omega))
  generalize (x.setCell ⟨w.heap.size + 1, 0, none⟩ (.int .i64 (f : Int))).setCell ⟨w.heap.size + 1, 1, none⟩ (.int .i64 ((n : Int) - (f : Int))) = Fin at *
  have z0 := Lib.cell_of_heap r2 0
  have z1 := Lib.cell_of_heap r2 1
  simp at z0 z1
  exact bodyPost_ret (v := .agg #[.int .i64 (f : Int), .int .i64 ((n : Int) - (f : Int))]) (by simp [results, Try.results66, go_sem, z0, z1]) rfl ⟨rfl, hB.out⟩
set_option maxHeartbeats 4000000 in
set_option maxRecDepth 100000 in
theorem place_any (m0 m1 m2 m3 m4 : Nat) (w : World) : Calls Try.prog 89 #[.agg (mcs [m0, m1, m2, m3, m4])] w fun e x => e = .returned (.int .i64 ((m0 % 2 : Nat) : Int)) ∧ Below w.heap.size w x := by
  have hal : Below w.heap.size w (w.alloc (.cells (mcs [m0, m1, m2, m3, m4]) tPm)) := (Below.refl _ _).alloc (Nat.le_refl _) _
  have hr : (m0 : Int).tmod 2 = ((m0 % 2 : Nat) : Int) := by rw [Int.tmod_eq_emod_of_nonneg (by omega)]; omega
  rw [mcs5] at *
  go_enter Try.func89, Try.ntmps89
  go_wp2_with fail
  go_ret
  exact ⟨by first | rfl | (rw [hr]), hal⟩
set_option maxHeartbeats 4000000 in
set_option maxRecDepth 100000 in
theorem next_any (m0 m1 m2 m3 m4 : Nat) (hm : m0 < 4611686018427387904) (w : World) : Calls Try.prog 73 #[.agg (mcs [m0, m1, m2, m3, m4])] w fun e x => e = .returned (.agg (mcs [m0 + 1, m1, m2, m3, m4])) ∧ Below w.heap.size w x := by
  rw [mcs5, mcs5]
  go_enter Try.func73, Try.ntmps73
  go_wp2_with fail
  have a1 := ((Below.refl w.heap.size w).alloc (Nat.le_refl _) (.cells #[.int .i64 (m0 + 1 : Int), .int .i64 (m1 : Int), .int .i64 (m2 : Int), .int .i64 (m3 : Int), .int .i64 (m4 : Int)] tPm)).alloc (by simp) (.cells #[.int .i64 (m0 + 1 : Int), .int .i64 (m1 : Int), .int .i64 (m2 : Int), .int .i64 (m3 : Int), .int .i64 (m4 : Int)] tPm)
  have h2 := heap_alloc_new (w.alloc (.cells #[.int .i64 (m0 + 1 : Int), .int .i64 (m1 : Int), .int .i64 (m2 : Int), .int .i64 (m3 : Int), .int .i64 (m4 : Int)] tPm)) (.cells #[.int .i64 (m0 + 1 : Int), .int .i64 (m1 : Int), .int .i64 (m2 : Int), .int .i64 (m3 : Int), .int .i64 (m4 : Int)] tPm)
  rw [show (w.alloc (.cells #[.int .i64 (m0 + 1 : Int), .int .i64 (m1 : Int), .int .i64 (m2 : Int), .int .i64 (m3 : Int), .int .i64 (m4 : Int)] tPm)).heap.size = w.heap.size + 1 by simp] at h2
  obtain ⟨g0, g1, g2, g3, g4⟩ := Ta.C5.cells (T := tPm) h2
  have hB := Lib.hid a1
  clear a1 h2
  change bodyPost _ _ _ _ _ ((w.alloc (.cells #[.int .i64 (m0 + 1 : Int), .int .i64 (m1 : Int), .int .i64 (m2 : Int), .int .i64 (m3 : Int), .int .i64 (m4 : Int)] tPm)).alloc (.cells #[.int .i64 (m0 + 1 : Int), .int .i64 (m1 : Int), .int .i64 (m2 : Int), .int .i64 (m3 : Int), .int .i64 (m4 : Int)] tPm))
  generalize (w.alloc (.cells #[.int .i64 (m0 + 1 : Int), .int .i64 (m1 : Int), .int .i64 (m2 : Int), .int .i64 (m3 : Int), .int .i64 (m4 : Int)] tPm)).alloc (.cells #[.int .i64 (m0 + 1 : Int), .int .i64 (m1 : Int), .int .i64 (m2 : Int), .int .i64 (m3 : Int), .int .i64 (m4 : Int)] tPm) = Fin at *
  exact bodyPost_ret (v := .agg #[.int .i64 (m0 + 1 : Int), .int .i64 (m1 : Int), .int .i64 (m2 : Int), .int .i64 (m3 : Int), .int .i64 (m4 : Int)]) (by simp [results, Try.results73, go_sem, g0, g1, g2, g3, g4]) rfl ⟨rfl, hB.out⟩
end
end Ho
end Go.Proofs.Ytkfmmdiflbnhgaa
