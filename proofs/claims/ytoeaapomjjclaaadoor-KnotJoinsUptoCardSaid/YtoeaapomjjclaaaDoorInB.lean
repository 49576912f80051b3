/-
  Layer 4 (knot): an untying: what it holds; how numbers are taken, and how it fails.
-/
import Derived.Test.YtoeaapomjjclaaaDoorInA
import Derived.Test.YtoeaapomjjclaaaDoorTurn
import Derived.Test.YtoeaapomjjclaaaDoorClone
namespace Go.Proofs.YtoeaapomjjclaaaDoor
open Go.RowKit Go.Sort
namespace Knot
open Who (bs bs_list bs_size bs_self eq_of_list)

/-- An untying in block I: what is left, and whether it has failed. -/
def Inn (w : World) (I : Nat) (rest : ByteArray) (f : Bool) : Prop := w.heap[I]? = some (.cells #[.string rest, .bool f] 66 (0, 0))
abbrev At (I : Nat) : Nat → Prop := fun k => k = I
section
variable {w x : World} {I : Nat} {s t : ByteArray} {f : Bool}
theorem Inn.lt (h : Inn w I s f) : I < w.heap.size := (Array.getElem?_eq_some_iff.1 h).1
theorem Inn.cells (h : Inn w I s f) : (w.cell? ⟨I, 0, none⟩ = some (.string s) ∧ w.frozen? ⟨I, 0, none⟩ = false) ∧ (w.cell? ⟨I, 1, none⟩ = some (.bool f) ∧ w.frozen? ⟨I, 1, none⟩ = false) :=
  ⟨⟨by rw [Lib.cell_of_heap h]; rfl, Lib.frozen_of_heap h 0⟩, ⟨by rw [Lib.cell_of_heap h]; rfl, Lib.frozen_of_heap h 1⟩⟩
theorem Inn.keep {F : Nat → Prop} (h : Inn w I s f) (ht : Turns F w x) (hF : ¬ F I) : Inn x I s f := (ht.block I h.lt hF).trans h
theorem Inn.below (h : Inn w I s f) (hb : Below w.heap.size w x) : Inn x I s f := (hb.block I h.lt).trans h
theorem Inn.set_other (h : Inn w I s f) {p : Addr} (hp : I ≠ p.block) (v : Value) : Inn (w.setCell p v) I s f := (Below.heap_setCell _ _ _ _ hp).trans h
theorem Inn.put0 (h : Inn w I s f) (t : ByteArray) : Inn (w.setCell ⟨I, 0, none⟩ (.string t)) I t f := heap_setCell_same w I 0 _ _ _ h
theorem Inn.put1 (h : Inn w I s f) (b : Bool) : Inn (w.setCell ⟨I, 1, none⟩ (.bool b)) I s b := heap_setCell_same w I 1 _ _ _ h
end

theorem open_any (bv : Value) (s : ByteArray) (w : World) (hc : ∀ W, W = w → (Go.convert 43 9 bv).run Tryd.prog W = .ok (.string s) W) :
    Calls Tryd.prog 23 #[bv] w fun e x => e = .returned (.pointer (some ⟨w.heap.size, 0, none⟩)) ∧ Inn x w.heap.size s false ∧ Below w.heap.size w x := by
  have hc' := hc w rfl
  clear hc
  go_enter Tryd.func23, Tryd.ntmps23
  go_wp2
  go_ret
  exact ⟨rfl, by rw [Inn, heap_alloc_new], (Below.refl _ _).alloc (Nat.le_refl _) _⟩

abbrev iptr (I : Nat) : Value := .pointer (some ⟨I, 0, none⟩)

theorem fail_any (I : Nat) (s : ByteArray) (f : Bool) (w : World) (h : Inn w I s f) :
    Calls Tryd.prog 39 #[iptr I] w fun e x => e = .returned (.tuple #[]) ∧ Inn x I ⟨#[]⟩ true ∧ Turns (At I) w x := by
  obtain ⟨⟨c0, f0⟩, ⟨c1, f1⟩⟩ := h.cells
  have H := Lib.hid h
  clear h
  go_enter Tryd.func39, Tryd.ntmps39
  go_wp2
  go_end0
  exact ⟨rfl, (H.out.put0 _).put1 _, ((Turns.refl _ _).setCell (by rfl) _).setCell (by rfl) _⟩

/-- Number, where none stands there. -/
theorem number_fail (I : Nat) (s : ByteArray) (f : Bool) (most : Int) (w : World) (h : Inn w I s f)
    (hn : ∀ W, Calls Tryd.prog 38 #[.string s] W fun e x => e = .returned (.tuple #[.int .i64 0, .int .i64 0]) ∧ Below W.heap.size W x) :
    Calls Tryd.prog 24 #[iptr I, .int .i64 most] w fun e x => e = .returned (.int .i64 0) ∧ Inn x I ⟨#[]⟩ true ∧ Turns (At I) w x := by
  obtain ⟨⟨c0, f0⟩, -⟩ := h.cells
  have H := Lib.hid h
  have HN := Lib.hid hn
  have HF := Lib.hid (fun W => fail_any I s f W)
  clear h hn
  go_enter Tryd.func24, Tryd.ntmps24
  go_wp2_with fail
  refine (HN.out _).mono ?_
  rintro e w1 ⟨rfl, b1⟩
  have h1 := H.out.below b1
  clear c0 f0
  go_wp2_with fail
  refine (HF.out _ h1).mono ?_
  rintro e w2 ⟨rfl, h2, t2⟩
  go_wp2
  go_ret
  exact ⟨rfl, h2, t2.after_below b1⟩
theorem number_none (I : Nat) (f : Bool) (most : Int) (w : World) (h : Inn w I ⟨#[]⟩ f) :
    Calls Tryd.prog 24 #[iptr I, .int .i64 most] w fun e x => e = .returned (.int .i64 0) ∧ Inn x I ⟨#[]⟩ true ∧ Turns (At I) w x := number_fail I _ f most w h fun W => number_empty W

/-- Number, where one was tied. -/
theorem number_goes (I n : Nat) (s : ByteArray) (y : List UInt8) (f : Bool) (most : Int) (w : World) (h : Inn w I s f) (hs : s.data.toList = number n ++ y) (hn : n < 10 ^ 16) (hm : (n : Int) ≤ most) :
    Calls Tryd.prog 24 #[iptr I, .int .i64 most] w fun e x => e = .returned (.int .i64 n) ∧ Inn x I (bs y) f ∧ Turns (At I) w x := by
  obtain ⟨⟨c0, f0⟩, -⟩ := h.cells
  have hn1 := fun W => number_good_f n y s W hs hn
  have hsz : (digits n).length + 1 ≤ s.size := by rw [Lib.size_eq, hs, List.length_append, num_size]; omega
  obtain ⟨L, hL⟩ : ∃ L, L = (digits n).length + 1 := ⟨_, rfl⟩
  have hsl : ∀ W, (Instr.slice 9 (.string s) (some (.int .i64 (L : Int))) none none).run Tryd.prog W = .ok (.string (bs y)) W := fun W => by
    rw [run_slice_string_from_if _ 9 s .i64 (L : Int) Tryd.underlying9, if_pos (by omega), Int.toNat_natCast]
    have e : s.extract L s.size = bs y := by
      apply eq_of_list
      rw [bs_list, Gl.extract_list, hs, hL, ← num_size]
      exact List.drop_left
    rw [e]
  have hL1 : 1 ≤ L := by omega
  have hz : ((L : Int) == 0) = false := by simp; omega
  rw [← hL] at hn1 hsz
  have H := Lib.hid h
  have HN := Lib.hid hn1
  clear h hn1 hs hn hsz hL hL1
  go_enter Tryd.func24, Tryd.ntmps24
  go_wp2_with fail
  refine (HN.out _).mono ?_
  rintro e w1 ⟨rfl, b1⟩
  have h1 := H.out.below b1
  have K1 := Lib.hid h1
  obtain ⟨⟨c2, f2⟩, -⟩ := h1.cells
  clear c0 f0 h1
  go_wp2
  go_ret
  exact ⟨rfl, K1.out.put0 _, (Turns.of_below b1).setCell (by rfl) _⟩
end Knot
end Go.Proofs.YtoeaapomjjclaaaDoor
