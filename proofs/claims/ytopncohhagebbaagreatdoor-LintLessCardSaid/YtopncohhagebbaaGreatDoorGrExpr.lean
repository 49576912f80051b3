/-
  Layer 7 (grammar): Expr, Parse. Written by gen/mk_gx.py.
-/
import Derived.Test.YtopncohhagebbaaGreatDoorGrWholeB
namespace Go.Proofs.YtopncohhagebbaaGreatDoor
open Go.RowKit
namespace Gr
open Knot (Turns NewRow)
open Tr (Nd none0 node4 own_slice Box4)
open Sg (Tok kt plV)

set_option maxHeartbeats 4000000 in
set_option maxRecDepth 100000 in
theorem Parse_any {a0 a1 : Addr} {s : ByteArray} {w : World} (hs : s.size ≤ 4000000) (hg : Glob a0 a1 w) :
    Calls Tryz.prog 26 #[.string s] w fun e y => ∃ v, e = .returned (.tuple #[v, plV (parseA s).2.1, .int .i64 (parseA s).2.2]) ∧ CfS y w.heap.size (parseA s).1 v ∧ Below w.heap.size w y := by
  have b1 : Below w.heap.size w ((w.alloc (.cells #[.slice none 0 0] 24)).alloc (.cells #[.int .i64 0, .int .i64 0] tPl)) := ((Below.refl _ _).alloc (Nat.le_refl _) _).alloc (by simp) _
  have s1 : (w.alloc (.cells #[.slice none 0 0] 24)).heap.size = w.heap.size + 1 := by simp
  have s2 : ((w.alloc (.cells #[.slice none 0 0] 24)).alloc (.cells #[.int .i64 0, .int .i64 0] tPl)).heap.size = w.heap.size + 1 + 1 := by simp
  have n1 : ((w.alloc (.cells #[.slice none 0 0] 24)).alloc (.cells #[.int .i64 0, .int .i64 0] tPl)).heap[w.heap.size]? = some (.cells #[.slice none 0 0] 24 (0, 0)) :=
    (((Below.refl (w.heap.size + 1) (w.alloc (.cells #[.slice none 0 0] 24))).alloc (by simp) (.cells #[.int .i64 0, .int .i64 0] tPl)).block w.heap.size (by omega)).trans (heap_alloc_new w _)
  have n2 := heap_alloc_new (w.alloc (.cells #[.slice none 0 0] 24)) (.cells #[.int .i64 0, .int .i64 0] tPl)
  rw [s1] at n2
  have HC := Lib.hid (wholeC_any hs (hg.below b1))
  have H0 := Lib.hid (And.intro b1 (And.intro n1 (And.intro n2 s2)))
  clear b1 s1 s2 n1 n2 hg
  generalize parseA s = ans at *
  go_enter Tryz.func26, Tryz.ntmps26
  go_wp2_with fail
  generalize (w.alloc (.cells #[.slice none 0 0] 24)).alloc (.cells #[.int .i64 0, .int .i64 0] tPl) = w2 at *
  refine HC.out.mono ?_
  rintro e y ⟨v, rfl, hv, hby⟩
  have hb := H0.out.1.trans (hby.mono H0.out.1.size)
  have hya : y.heap[w.heap.size]? = some (.cells #[.slice none 0 0] 24 (0, 0)) := (hby.block _ (by have := H0.out.2.2.2; omega)).trans H0.out.2.1
  have hyp : y.heap[w.heap.size + 1]? = some (.cells #[.int .i64 0, .int .i64 0] tPl (0, 0)) := (hby.block _ (by have := H0.out.2.2.2; omega)).trans H0.out.2.2.1
  have hs2 := H0.out.2.2.2
  clear HC hby
  obtain ⟨n, pl, code⟩ := ans
  simp only at hv
  obtain ⟨no, nc, rfl, -⟩ := (show CfS _ _ _ _ from hv)
  have tt : Turns (fun g => g = w.heap.size ∨ g = w.heap.size + 1) y (((y.setCell ⟨w.heap.size, 0, none⟩ (.slice no n.length nc)).setCell ⟨w.heap.size + 1, 0, none⟩ (.int .i64 (pl.1 : Nat))).setCell ⟨w.heap.size + 1, 1, none⟩ (.int .i64 (pl.2 : Nat))) := setP_turns ((Turns.refl (fun g => g = w.heap.size ∨ g = w.heap.size + 1) y).setCell (p := ⟨w.heap.size, 0, none⟩) (.inl rfl) (.slice no n.length nc)) _ (.inr rfl) _ _
  have hWa : (((y.setCell ⟨w.heap.size, 0, none⟩ (.slice no n.length nc)).setCell ⟨w.heap.size + 1, 0, none⟩ (.int .i64 (pl.1 : Nat))).setCell ⟨w.heap.size + 1, 1, none⟩ (.int .i64 (pl.2 : Nat))).heap[w.heap.size]? = some (.cells #[.slice no n.length nc] 24 (0, 0)) := by
    repeat rw [other_set (R := w.heap.size + 1) (by omega)]
    exact (Lib.heap_setCell_same (i := 0) hya (.slice no n.length nc))
  have hWp : (((y.setCell ⟨w.heap.size, 0, none⟩ (.slice no n.length nc)).setCell ⟨w.heap.size + 1, 0, none⟩ (.int .i64 (pl.1 : Nat))).setCell ⟨w.heap.size + 1, 1, none⟩ (.int .i64 (pl.2 : Nat))).heap[w.heap.size + 1]? = some (.cells #[.int .i64 (pl.1 : Nat), .int .i64 (pl.2 : Nat)] tPl (0, 0)) := by
    refine Lib.heap_setCell_same (i := 1) (Lib.heap_setCell_same (i := 0) (cs := #[.int .i64 0, .int .i64 0]) ?_ (.int .i64 (pl.1 : Nat))) (.int .i64 (pl.2 : Nat))
    repeat rw [other_set (by omega)]
    exact hyp
  have hWb := hb.trans (tt.below hb.size fun k hk => by omega)
  have hWi : CfS (((y.setCell ⟨w.heap.size, 0, none⟩ (.slice no n.length nc)).setCell ⟨w.heap.size + 1, 0, none⟩ (.int .i64 (pl.1 : Nat))).setCell ⟨w.heap.size + 1, 1, none⟩ (.int .i64 (pl.2 : Nat))) w.heap.size n (.agg #[.slice no n.length nc]) := (by obtain ⟨ao, cap, he, h5⟩ := (show CfS _ _ _ _ from hv); exact ⟨ao, cap, he, (h5.turn tt fun g hg _ e => by omega).mono (by omega)⟩)
  have HW := Lib.hid (And.intro hWa (And.intro hWp (And.intro hWb hWi)))
  have a0 : y.cell? ⟨w.heap.size, 0, none⟩ = some (.slice none 0 0) := by rw [Lib.cell_of_heap hya]; rfl
  have fa0 := Lib.frozen_of_heap hya 0
  obtain ⟨p0, p1, fp0, fp1⟩ := pl_cells hyp
  clear tt hWi hWa hWp hWb hya hyp hb hv hs2 H0
  unfold plV
  go_wp2_with fail
  generalize ((y.setCell ⟨w.heap.size, 0, none⟩ (.slice no n.length nc)).setCell ⟨w.heap.size + 1, 0, none⟩ (.int .i64 (pl.1 : Nat))).setCell ⟨w.heap.size + 1, 1, none⟩ (.int .i64 (pl.2 : Nat)) = W at *
  obtain ⟨hWa, hWp, hWb, hWi⟩ := HW.out
  have g0 : W.cell? ⟨w.heap.size, 0, none⟩ = some (.slice no n.length nc) := by rw [Lib.cell_of_heap hWa]; rfl
  obtain ⟨q0, q1, -, -⟩ := pl_cells hWp
  exact bodyPost_ret (v := .tuple #[.agg #[.slice no n.length nc], .agg #[.int .i64 (pl.1 : Nat), .int .i64 (pl.2 : Nat)], .int .i64 code]) (by simp [results, Tryz.results26, go_sem, g0, q0, q1]) rfl ⟨_, rfl, hWi, hWb⟩
end Gr
end Go.Proofs.YtopncohhagebbaaGreatDoor
