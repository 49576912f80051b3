/-
  Layer 7 (grammar): allow.
-/
import Derived.Test.YtbphmaoomnocmaaDoorGrAtom
namespace Go.Proofs.YtbphmaoomnocmaaDoor
open Go.RowKit
namespace Gr
open Knot (Turns NewRow)
open Tr (Nd none0 node4 own_slice RowAt own_open Box4)
open Sg (Tok kt)

/-- A box of three. -/
def Box3 (T : TypeId) (R : Nat) (a b d : Value) (x : World) : Prop := x.heap[R]? = some (.cells #[a, b, d] T (0, 0))
section
variable {T : TypeId} {R : Nat} {a b d : Value} {x y : World}
theorem Box3.lt (h : Box3 T R a b d x) : R < x.heap.size := (Array.getElem?_eq_some_iff.1 h).1
theorem Box3.cells (h : Box3 T R a b d x) : x.cell? ⟨R, 0, none⟩ = some a ∧ x.cell? ⟨R, 1, none⟩ = some b ∧ x.cell? ⟨R, 2, none⟩ = some d :=
  ⟨by rw [Lib.cell_of_heap h]; rfl, by rw [Lib.cell_of_heap h]; rfl, by rw [Lib.cell_of_heap h]; rfl⟩
theorem Box3.free (h : Box3 T R a b d x) : x.frozen? ⟨R, 0, none⟩ = false ∧ x.frozen? ⟨R, 1, none⟩ = false ∧ x.frozen? ⟨R, 2, none⟩ = false := ⟨Lib.frozen_of_heap h 0, Lib.frozen_of_heap h 1, Lib.frozen_of_heap h 2⟩
theorem Box3.new (w : World) (T : TypeId) (a b d : Value) : Box3 T w.heap.size a b d (w.alloc (.cells #[a, b, d] T)) := heap_alloc_new w _
theorem Box3.turn {F : Nat → Prop} (h : Box3 T R a b d x) (ht : Turns F x y) (hF : ¬ F R) : Box3 T R a b d y := (ht.block R h.lt hF).trans h
def set3 (x : World) (R : Nat) (a b d : Value) : World := ((x.setCell ⟨R, 0, none⟩ a).setCell ⟨R, 1, none⟩ b).setCell ⟨R, 2, none⟩ d
theorem Box3.set (h : Box3 T R a b d x) (a' b' d' : Value) : Box3 T R a' b' d' (set3 x R a' b' d') :=
  Lib.heap_setCell_same (i := 2) (Lib.heap_setCell_same (i := 1) (Lib.heap_setCell_same (i := 0) h a') b') d'
theorem Box3.set1 (h : Box3 T R a b d x) (b' : Value) : Box3 T R a b' d (x.setCell ⟨R, 1, none⟩ b') := Lib.heap_setCell_same (i := 1) h b'
theorem Box3.set2 (h : Box3 T R a b d x) (d' : Value) : Box3 T R a b d' (x.setCell ⟨R, 2, none⟩ d') := Lib.heap_setCell_same (i := 2) h d'
theorem set3_own (x : World) (R : Nat) (a b d : Value) : Turns (fun g => g = R) x (set3 x R a b d) :=
  ((Turns.refl (fun g => g = R) x).setCell (p := ⟨R, 0, none⟩) rfl _).setCell (p := ⟨R, 1, none⟩) rfl _ |>.setCell (p := ⟨R, 2, none⟩) rfl _
theorem set_own (x : World) (R i : Nat) (v : Value) : Turns (fun g => g = R) x (x.setCell ⟨R, i, none⟩ v) := Turns.setCell (F := fun g => g = R) (Turns.refl _ x) rfl v
end
abbrev tAl : TypeId := 51
/-- What allow stands on. -/
structure Aw (c : Ctx) (o : Nat) (x : World) (s : St) (R3 : Nat) (a b d : Value) (w : World) : Prop where
  rd : Rd c o s w
  res : Box3 tAl x.heap.size (.string ⟨#[]⟩) (.string ⟨#[]⟩) (.bool false) w
  box : Box3 tAl R3 a b d w
  turns : Turns (fun k => k = c.R) x w
  low : c.R < x.heap.size ∧ x.heap.size < R3
section
variable {c : Ctx} {o : Nat} {x : World} {s s' : St} {R3 : Nat} {a b d : Value} {w y : World}
theorem Aw.turn (h : Aw c o x s R3 a b d w) (hr : Rd c o s' y) (ht : Turns (fun k => k = c.R) w y) : Aw c o x s' R3 a b d y :=
  ⟨hr, h.res.turn ht (by have := h.low; omega), h.box.turn ht (by have := h.low; omega), h.turns.trans ht fun _ _ h => h, h.low⟩
theorem Aw.put1 (h : Aw c o x s R3 a b d w) (b' : Value) : Aw c o x s R3 a b' d (w.setCell ⟨R3, 1, none⟩ b') :=
  ⟨h.rd.turn (set_own w R3 1 b') fun g hg e => by have := h.low; omega, h.res.turn (set_own w R3 1 b') (by have := h.low; omega), h.box.set1 b',
    h.turns.setNew (p := ⟨R3, 1, none⟩) (by have := h.low; simp only; omega) b', h.low⟩
theorem Aw.put2 (h : Aw c o x s R3 a b d w) (d' : Value) : Aw c o x s R3 a b d' (w.setCell ⟨R3, 2, none⟩ d') :=
  ⟨h.rd.turn (set_own w R3 2 d') fun g hg e => by have := h.low; omega, h.res.turn (set_own w R3 2 d') (by have := h.low; omega), h.box.set2 d',
    h.turns.setNew (p := ⟨R3, 2, none⟩) (by have := h.low; simp only; omega) d', h.low⟩
theorem Aw.fin (h : Aw c o x s R3 a b d w) (a' b' d' : Value) : Rd c o s (set3 w x.heap.size a' b' d') ∧ Turns (fun g => g = c.R) x (set3 w x.heap.size a' b' d') :=
  ⟨h.rd.turn (set3_own w x.heap.size a' b' d') fun g hg e => by have := h.low; omega,
    ((h.turns.setNew (p := ⟨x.heap.size, 0, none⟩) (Nat.le_refl _) a').setNew (p := ⟨x.heap.size, 1, none⟩) (Nat.le_refl _) b').setNew (p := ⟨x.heap.size, 2, none⟩) (Nat.le_refl _) d'⟩
end
set_option maxHeartbeats 4000000 in
set_option maxRecDepth 100000 in
theorem allow_any {c : Ctx} {o : Nat} {s : St} {x : World} (h : Rd c o s x) :
    Calls Tryd.prog 95 #[.pointer (some ⟨c.R, 0, none⟩)] x (Out allowE c o (allow s) x) := by
  have al : Below x.heap.size x (x.alloc (.cells #[.string ⟨#[]⟩, .string ⟨#[]⟩, .bool false] 51)) := (Below.refl _ _).alloc (Nat.le_refl _) _
  have hW := word_any (h.below al)
  have HW := Lib.hid hW
  have hz : (x.alloc (.cells #[.string ⟨#[]⟩, .string ⟨#[]⟩, .bool false] 51)).heap.size = x.heap.size + 1 := by simp
  have H0 := Lib.hid (And.intro al (And.intro (Box3.new x tAl (.string ⟨#[]⟩) (.string ⟨#[]⟩) (.bool false)) (And.intro h.lt hz)))
  have HQ := Lib.hid (show allow s = if next (word s).2 = 35 then (⟨(word s).1, (word (tl (word s).2)).1, false⟩, (word (tl (word s).2)).2) else if next (word s).2 = 58 then (⟨(word s).1, none0, true⟩, need (tl (word s).2) 42) else (⟨(word s).1, none0, false⟩, (word s).2) from rfl)
  clear h al hW hz
  generalize allow s = res at *
  generalize (word s).1 = A at *
  generalize (word s).2 = s1 at *
  go_enter Tryd.func95, Tryd.ntmps95
  go_wp2_with fail
  refine HW.out.mono ?_
  rintro e y ⟨rfl, h1, h2⟩
  have al2 : Below y.heap.size y (y.alloc (.cells #[.string A, .string ⟨#[]⟩, .bool false] 51)) := (Below.refl _ _).alloc (Nat.le_refl _) _
  have hA : Aw c o x s1 y.heap.size (.string A) (.string ⟨#[]⟩) (.bool false) (y.alloc (.cells #[.string A, .string ⟨#[]⟩, .bool false] 51)) := by
    obtain ⟨q1, q2, q3, q4⟩ := H0.out
    have hsz := h2.size
    exact ⟨h1.below al2, (q2.turn h2 (by omega)).turn (Turns.of_below (F := fun _ => False) al2) id, Box3.new y _ _ _ _, (Turns.after_below q1 h2).then_below al2, q3, by omega⟩
  have HA := Lib.hid hA
  clear h1 h2 al2 hA H0 HW
  go_wp2_with fail
  have hT := take_any HA.out.rd 35 (by decide)
  generalize y.heap.size = R3 at *
  generalize y.alloc (.cells #[.string A, .string ⟨#[]⟩, .bool false] 51) = w1 at *
  clear y
  by_cases h35 : next s1 = 35
  · have HQ2 := Lib.hid (HQ.out.trans (if_pos h35))
    rw [if_pos h35, decide_eq_true h35] at hT
    have HT := Lib.hid hT
    clear hT h35 HQ
    refine HT.out.mono ?_
    rintro e w2 ⟨rfl, h1, h2⟩
    have HA2 := Lib.hid (HA.out.turn h1 h2)
    have HW2 := Lib.hid (word_any h1)
    clear h1 h2 HT HA
    generalize tl s1 = s2 at *
    go_wp2_with fail
    refine HW2.out.mono ?_
    rintro e w3 ⟨rfl, h1, h2⟩
    have hA := HA2.out.turn h1 h2
    obtain ⟨d0, d1, d2⟩ := hA.box.cells
    obtain ⟨f0, f1, f2⟩ := hA.box.free
    have hA2 := hA.put1 (.string (word s2).1)
    obtain ⟨i0, i1, i2⟩ := hA2.box.cells
    obtain ⟨j0, j1, j2⟩ := hA2.res.cells
    obtain ⟨k0, k1, k2⟩ := hA2.res.free
    have HF := Lib.hid (And.intro (hA2.fin (.string A) (.string (word s2).1) (.bool false)) (hA2.res.set (.string A) (.string (word s2).1) (.bool false)).cells)
    clear hA hA2 HA2 HW2 h1 h2
    generalize (word s2).1 = B at *
    go_wp2_with fail
    obtain ⟨g0, g1, g2⟩ := HF.out.2
    unfold set3 at g0 g1 g2
    exact bodyPost_ret (v := alV ⟨A, B, false⟩) (by simp [results, Tryd.results95, go_sem, g0, g1, g2]) rfl ⟨_, rfl, by rw [HQ2.out]; exact ⟨rfl, HF.out.1⟩⟩
  · have HQ2 := Lib.hid (HQ.out.trans (if_neg h35))
    rw [if_neg h35, decide_eq_false h35] at hT
    have HT := Lib.hid hT
    clear hT h35 HQ
    refine HT.out.mono ?_
    rintro e w2 ⟨rfl, h1, h2⟩
    have HA2 := Lib.hid (HA.out.turn h1 h2)
    have hT := take_any h1 58 (by decide)
    clear h1 h2 HT HA
    go_wp2_with fail
    by_cases h58 : next s1 = 58
    · have HQ3 := Lib.hid (HQ2.out.trans (if_pos h58))
      rw [if_pos h58, decide_eq_true h58] at hT
      have HT := Lib.hid hT
      clear hT h58 HQ2
      refine HT.out.mono ?_
      rintro e w3 ⟨rfl, h1, h2⟩
      have HA3 := Lib.hid (HA2.out.turn h1 h2)
      have HN := Lib.hid (need_any h1 42 (by decide))
      clear h1 h2 HT HA2
      go_wp2_with fail
      refine HN.out.mono ?_
      rintro e w4 ⟨rfl, h1, h2⟩
      have hA := HA3.out.turn h1 h2
      obtain ⟨d0, d1, d2⟩ := hA.box.cells
      obtain ⟨f0, f1, f2⟩ := hA.box.free
      have hA2 := hA.put2 (.bool true)
      obtain ⟨i0, i1, i2⟩ := hA2.box.cells
      obtain ⟨j0, j1, j2⟩ := hA2.res.cells
      obtain ⟨k0, k1, k2⟩ := hA2.res.free
      have HF := Lib.hid (And.intro (hA2.fin (.string A) (.string ⟨#[]⟩) (.bool true)) (hA2.res.set (.string A) (.string ⟨#[]⟩) (.bool true)).cells)
      clear hA hA2 HA3 HN h1 h2
      go_wp2_with fail
      obtain ⟨g0, g1, g2⟩ := HF.out.2
      unfold set3 at g0 g1 g2
      exact bodyPost_ret (v := alV ⟨A, none0, true⟩) (by simp [results, Tryd.results95, go_sem, g0, g1, g2, none0]) rfl ⟨_, rfl, by rw [HQ3.out]; exact ⟨rfl, HF.out.1⟩⟩
    · have HQ3 := Lib.hid (HQ2.out.trans (if_neg h58))
      rw [if_neg h58, decide_eq_false h58] at hT
      have HT := Lib.hid hT
      clear hT h58 HQ2
      refine HT.out.mono ?_
      rintro e w3 ⟨rfl, h1, h2⟩
      have hA2 := HA2.out.turn h1 h2
      obtain ⟨i0, i1, i2⟩ := hA2.box.cells
      obtain ⟨j0, j1, j2⟩ := hA2.res.cells
      obtain ⟨k0, k1, k2⟩ := hA2.res.free
      have HF := Lib.hid (And.intro (hA2.fin (.string A) (.string ⟨#[]⟩) (.bool false)) (hA2.res.set (.string A) (.string ⟨#[]⟩) (.bool false)).cells)
      clear hA2 HA2 HT h1 h2
      go_wp2_with fail
      obtain ⟨g0, g1, g2⟩ := HF.out.2
      unfold set3 at g0 g1 g2
      exact bodyPost_ret (v := alV ⟨A, none0, false⟩) (by simp [results, Tryd.results95, go_sem, g0, g1, g2, none0]) rfl ⟨_, rfl, by rw [HQ3.out]; exact ⟨rfl, HF.out.1⟩⟩
theorem enter_allow : ∀ args W, (callFunc 95 args).run Tryd.prog W = .ok (.enter 95 args) W := fun args W => by kernel_rfl
theorem allow_part (c : Ctx) : Part allowE c 0 95 allow := ⟨enter_allow, fun _ _ h => allow_any h⟩
end Gr
end Go.Proofs.YtbphmaoomnocmaaDoor
