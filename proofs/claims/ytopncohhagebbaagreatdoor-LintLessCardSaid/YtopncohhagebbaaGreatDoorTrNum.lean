/-
  Layer 5 (tract): Good, Size, Depth.
-/
import Derived.Test.YtopncohhagebbaaGreatDoorTrThr
import Derived.Test.YtopncohhagebbaaGreatDoorTrFits
namespace Go.Proofs.YtopncohhagebbaaGreatDoor
open Go.RowKit
namespace Tr
open Knot (Turns NewRow)

theorem new_one (w : World) (o : Obj) : Below w.heap.size w (w.alloc o) := (Below.refl _ _).alloc (Nat.le_refl _) o

theorem good_see (n : Nd) (v : Value) (d : Nat) (w : World) (hn : IsNode w n v) :
    Calls Tryz.prog 133 #[v, .int .i64 (d : Nat)] w fun e x => e = .returned (.bool (fits n)) ∧ Below w.heap.size w x := by
  obtain ⟨ao, cap, vs, rfl, -, -⟩ := hn.kids
  have HC := Lib.hid (fits_any n _ (w.alloc (.cells #[.int .i64 n.kind, .string n.ta, .string n.tb, .slice ao n.kids.length cap] 47)) (hn.below (new_one _ _)))
  clear hn
  go_enter Tryz.func133, Tryz.ntmps133
  go_wp2_with fail
  refine HC.out.mono ?_
  rintro e x ⟨rfl, hx⟩
  go_wp2_with fail
  go_ret
  exact ⟨rfl, (new_one _ _).trans (hx.mono (by simp))⟩

theorem good_shows (w : World) (B : Nat) : Shows w B (fun _ => False) 133 #[] (σ := Unit) (fun _ _ _ => True) (fun _ n _ => fits n) (fun _ _ _ => ()) where
  enter := fun args x => by kernel_rfl
  low := fun k hk => hk.elim
  keep := fun _ _ _ _ _ _ _ => trivial
  see := fun m s x n v d _ hn _ => (good_see n v d x hn).mono fun e y ⟨he, hb⟩ => ⟨he, trivial, Turns.of_below hb⟩

theorem good_any (n : Nd) (v : Value) (w : World) (hz : size n ≤ 900) (hn : IsNode w n v) :
    Calls Tryz.prog 100 #[v] w fun e x => e = .returned (.bool (good n)) ∧ Below w.heap.size w x := by
  obtain ⟨ao, cap, vs, rfl, -, -⟩ := hn.kids
  have hC := through_any n _ () (w.alloc (.cells #[.int .i64 n.kind, .string n.ta, .string n.tb, .slice ao n.kids.length cap] 47)) (good_shows w _) (new_one _ _) hn hz trivial
  have hr := run_good (size n) [(n, 1)] (by simp [tot, sizes])
  rw [hr] at hC
  rw [show goods ([(n, 1)].map Prod.fst) = good n by simp [goods]] at hC
  have HC := Lib.hid hC
  clear hn hC hr
  go_enter Tryz.func100, Tryz.ntmps100
  go_wp2_with fail
  refine HC.out.mono ?_
  rintro e x ⟨rfl, -, hx⟩
  have hx2 := hx.below (B := w.heap.size) (by simp) (fun k hk => hk.elim)
  go_wp2_with fail
  go_ret
  exact ⟨rfl, (new_one _ _).trans hx2⟩

def NumAt (K : Nat) (z : Nat) (x : World) : Prop := x.heap[K]? = some (.cells #[.int .i64 (z : Nat)] 3 (0, 0))
theorem NumAt.cell {K z : Nat} {x : World} (h : NumAt K z x) : x.cell? ⟨K, 0, none⟩ = some (.int .i64 (z : Nat)) ∧ x.frozen? ⟨K, 0, none⟩ = false := ⟨by rw [Lib.cell_of_heap h]; rfl, Lib.frozen_of_heap h 0⟩
theorem NumAt.lt {K z : Nat} {x : World} (h : NumAt K z x) : K < x.heap.size := (Array.getElem?_eq_some_iff.1 h).1
theorem NumAt.put {K z : Nat} {x : World} (h : NumAt K z x) (y : Nat) : NumAt K y (x.setCell ⟨K, 0, none⟩ (.int .i64 (y : Nat))) := by
  rw [NumAt, heap_setCell_same x K 0 #[.int .i64 (z : Nat)] _ _ h]
  rfl

theorem size_see (n : Nd) (v : Value) (d : Nat) (K z : Nat) (w : World) (hn : IsNode w n v) (hz : z ≤ 900) (hK : NumAt K z w) :
    Calls Tryz.prog 135 #[v, .int .i64 (d : Nat), .pointer (some ⟨K, 0, none⟩)] w fun e x => e = .returned (.bool true) ∧ NumAt K (z + 1) x ∧ Turns (fun k => k = K) w x := by
  obtain ⟨ao, cap, vs, rfl, -, -⟩ := hn.kids
  have hK2 : NumAt K z (w.alloc (.cells #[.int .i64 n.kind, .string n.ta, .string n.tb, .slice ao n.kids.length cap] 47)) := ((new_one _ _).block K hK.lt).trans hK
  obtain ⟨c0, f0⟩ := hK2.cell
  have HK := Lib.hid hK2
  clear hn hK hK2
  go_enter Tryz.func135, Tryz.ntmps135
  go_wp2_with fail
  go_ret
  exact ⟨rfl, HK.out.put (z + 1), Turns.setCell (F := fun k => k = K) (Turns.of_below (new_one _ _)) rfl _⟩

theorem depth_see (n : Nd) (v : Value) (d : Nat) (K z : Nat) (w : World) (hn : IsNode w n v) (_hz : z ≤ 1000) (_hd : d ≤ 1000) (hK : NumAt K z w) :
    Calls Tryz.prog 136 #[v, .int .i64 (d : Nat), .pointer (some ⟨K, 0, none⟩)] w fun e x => e = .returned (.bool true) ∧ NumAt K (max z d) x ∧ Turns (fun k => k = K) w x := by
  obtain ⟨ao, cap, vs, rfl, -, -⟩ := hn.kids
  have hK2 : NumAt K z (w.alloc (.cells #[.int .i64 n.kind, .string n.ta, .string n.tb, .slice ao n.kids.length cap] 47)) := ((new_one _ _).block K hK.lt).trans hK
  obtain ⟨c0, f0⟩ := hK2.cell
  have HK := Lib.hid hK2
  have HM := Lib.hid (show (max (z : Int) (d : Int)) = ((max z d : Nat) : Int) by omega)
  clear hn hK hK2
  go_enter Tryz.func136, Tryz.ntmps136
  go_wp2_with fail
  go_ret
  exact ⟨rfl, by rw [HM.out]; exact HK.out.put (max z d), Turns.setCell (F := fun k => k = K) (Turns.of_below (new_one _ _)) rfl _⟩

theorem size_shows (w : World) (B K : Nat) (hK : w.heap.size ≤ K) (hB : K < B) : Shows w B (fun k => k = K) 135 #[.pointer (some ⟨K, 0, none⟩)] (σ := Nat) (fun m s x => NumAt K s x ∧ s + m ≤ 900) (fun _ _ _ => true) (fun s _ _ => s + 1) where
  enter := fun args x => by kernel_rfl
  low := fun k hk => by subst hk; exact ⟨hK, hB⟩
  keep := fun _ _ x y h _ hb => ⟨(hb.block K hB).trans h.1, h.2⟩
  see := fun m s x n v d h hn _ => (size_see n v d K s x hn (by omega) h.1).mono fun e y ⟨he, h1, h2⟩ => ⟨he, ⟨h1, by omega⟩, h2⟩
theorem depth_shows (w : World) (B K : Nat) (hK : w.heap.size ≤ K) (hB : K < B) : Shows w B (fun k => k = K) 136 #[.pointer (some ⟨K, 0, none⟩)] (σ := Nat) (fun _ s x => NumAt K s x ∧ s ≤ 1000) (fun _ _ _ => true) (fun s _ d => max s d) where
  enter := fun args x => by kernel_rfl
  low := fun k hk => by subst hk; exact ⟨hK, hB⟩
  keep := fun _ _ x y h _ hb => ⟨(hb.block K hB).trans h.1, h.2⟩
  see := fun m s x n v d h hn hd => (depth_see n v d K s x hn h.2 hd h.1).mono fun e y ⟨he, h1, h2⟩ => ⟨he, ⟨h1, by omega⟩, h2⟩

set_option maxHeartbeats 1000000 in
theorem size_any (n : Nd) (v : Value) (w : World) (hz : size n ≤ 900) (hn : IsNode w n v) :
    Calls Tryz.prog 101 #[v] w fun e x => e = .returned (.int .i64 (size n : Nat)) ∧ Below w.heap.size w x := by
  obtain ⟨ao, cap, vs, rfl, -, -⟩ := hn.kids
  have hb : Below w.heap.size w ((w.alloc (.cells #[.int .i64 n.kind, .string n.ta, .string n.tb, .slice ao n.kids.length cap] 47)).alloc (.cells #[.int .i64 0] 3)) := (new_one _ _).alloc (by simp) _
  have hnum : NumAt (w.heap.size + 1) 0 ((w.alloc (.cells #[.int .i64 n.kind, .string n.ta, .string n.tb, .slice ao n.kids.length cap] 47)).alloc (.cells #[.int .i64 0] 3)) := by
    have := heap_alloc_new (w.alloc (.cells #[.int .i64 n.kind, .string n.ta, .string n.tb, .slice ao n.kids.length cap] 47)) (.cells #[.int .i64 0] 3)
    simpa [NumAt] using this
  have hC := through_any n _ 0 ((w.alloc (.cells #[.int .i64 n.kind, .string n.ta, .string n.tb, .slice ao n.kids.length cap] 47)).alloc (.cells #[.int .i64 0] 3)) (size_shows w _ (w.heap.size + 1) (by omega) (by simp)) hb hn hz ⟨hnum, by omega⟩
  rw [run_size (size n) [(n, 1)] 0 (by simp [tot, sizes])] at hC
  have e : tot [(n, 1)] = size n := by simp [tot, sizes]
  rw [e, Nat.zero_add] at hC
  have HC := Lib.hid hC
  have HB := Lib.hid hb
  clear hn hC hb hnum e
  go_enter Tryz.func101, Tryz.ntmps101
  go_wp2_with fail
  refine HC.out.mono ?_
  rintro e x ⟨rfl, ⟨_, hnum, -⟩, hx⟩
  obtain ⟨c0, -⟩ := hnum.cell
  have HX := Lib.hid (hx.below (B := w.heap.size) (by simp; omega) (fun k hk => by subst hk; omega))
  clear hnum hx
  go_wp2_with fail
  go_ret
  exact ⟨rfl, HB.out.trans HX.out⟩

set_option maxHeartbeats 1000000 in
theorem depth_any (n : Nd) (v : Value) (w : World) (hz : size n ≤ 900) (hn : IsNode w n v) :
    Calls Tryz.prog 102 #[v] w fun e x => e = .returned (.int .i64 (depth n : Nat)) ∧ Below w.heap.size w x := by
  obtain ⟨ao, cap, vs, rfl, -, -⟩ := hn.kids
  have hb : Below w.heap.size w ((w.alloc (.cells #[.int .i64 n.kind, .string n.ta, .string n.tb, .slice ao n.kids.length cap] 47)).alloc (.cells #[.int .i64 0] 3)) := (new_one _ _).alloc (by simp) _
  have hnum : NumAt (w.heap.size + 1) 0 ((w.alloc (.cells #[.int .i64 n.kind, .string n.ta, .string n.tb, .slice ao n.kids.length cap] 47)).alloc (.cells #[.int .i64 0] 3)) := by
    have := heap_alloc_new (w.alloc (.cells #[.int .i64 n.kind, .string n.ta, .string n.tb, .slice ao n.kids.length cap] 47)) (.cells #[.int .i64 0] 3)
    simpa [NumAt] using this
  have hC := through_any n _ 0 ((w.alloc (.cells #[.int .i64 n.kind, .string n.ta, .string n.tb, .slice ao n.kids.length cap] 47)).alloc (.cells #[.int .i64 0] 3)) (depth_shows w _ (w.heap.size + 1) (by omega) (by simp)) hb hn hz ⟨hnum, by omega⟩
  rw [run_depth (size n) [(n, 1)] 0 (by simp [tot, sizes])] at hC
  have e : max 0 (deep [(n, 1)]) = depth n := by have := depth_pos n; simp [deep]; omega
  rw [e] at hC
  have HC := Lib.hid hC
  have HB := Lib.hid hb
  clear hn hC hb hnum e
  go_enter Tryz.func102, Tryz.ntmps102
  go_wp2_with fail
  refine HC.out.mono ?_
  rintro e x ⟨rfl, ⟨_, hnum, -⟩, hx⟩
  obtain ⟨c0, -⟩ := hnum.cell
  have HX := Lib.hid (hx.below (B := w.heap.size) (by simp; omega) (fun k hk => by subst hk; omega))
  clear hnum hx
  go_wp2_with fail
  go_ret
  exact ⟨rfl, HB.out.trans HX.out⟩
end Tr
end Go.Proofs.YtopncohhagebbaaGreatDoor
