/-
  Layer 6 (sigil): what the document's Lex reads and writes: parts of its list, a token in a box.
-/
import Derived.Test.YtbphmaoomnocmaaDoorSgG
namespace Go.Proofs.YtbphmaoomnocmaaDoor
open Go.RowKit
namespace Sg

theorem elemI : Tryd.prog.underlying 99 = some (.slice (Tryd.prog.elem 99)) := by kernel_rfl
theorem sizeI : ∀ w, (sizeOf (Tryd.prog.elem 99)).run Tryd.prog w = .ok 1 w := fun w => by kernel_rfl
/-- A part of a list. -/
theorem sub_run {g cap n a j : Nat} (h2 : a + j ≤ cap) (h3 : a < cap) (W : World) :
    (Instr.slice 99 (.slice (some ⟨g, 0, none⟩) n cap) (some (.int .i64 (a : Int))) (some (.int .i64 ((a : Int) + (j : Int)))) none).run Tryd.prog W = .ok (.slice (some ⟨g, a, none⟩) j (cap - a)) W := by
  rw [run_slice_lh W 99 (some ⟨g, 0, none⟩) n cap elemI .i64 .i64 (a : Int) ((a : Int) + (j : Int)) (by omega) (by omega) (by omega), sizeI]
  have e1 : ((a : Int)).toNat = a := by omega
  have e2 : ((a : Int) + (j : Int)).toNat = a + j := by omega
  simp only [Result.andThen_ok, e1, e2, sliced]
  rw [if_neg (by omega)]
  simp only [Option.map_some, Tr.addp, Nat.mul_one, Nat.zero_add, Nat.add_sub_cancel_left]
theorem sub_text {q : List Nat} {g cap a j : Nat} {x : World} (h : IsL x g 0 q) (hj : a + j ≤ q.length) (hl : q.length ≤ 100000) (hlow : ∀ r ∈ (q.drop a).take j, r < 128) :
    Calls Tryd.prog 47 #[.slice (some ⟨g, a, none⟩) j (cap - a)] x fun e w' => e = .returned (.string (txt ((q.drop a).take j))) ∧ Below x.heap.size x w' := by
  have hln : ((q.drop a).take j).length = j := by rw [List.length_take, List.length_drop]; omega
  have hp := h.part a j
  rw [Nat.zero_add] at hp
  have := text_any ((q.drop a).take j) g a (cap - a) x hp (by omega) hlow
  rw [hln] at this
  exact this

/-- A token in a box. -/
def TB (R : Nat) (k : Int) (b : ByteArray) (p : Nat × Nat) (y : World) : Prop := y.heap[R]? = some (.cells #[.int .i64 k, .string b, .int .i64 (p.1 : Nat), .int .i64 (p.2 : Nat)] 107 (0, 0))
section
variable {R : Nat} {k : Int} {b : ByteArray} {p : Nat × Nat} {x y : World}
theorem TB.lt (h : TB R k b p x) : R < x.heap.size := (Array.getElem?_eq_some_iff.1 h).1
theorem TB.cells (h : TB R k b p x) : x.cell? ⟨R, 0, none⟩ = some (.int .i64 k) ∧ x.cell? ⟨R, 1, none⟩ = some (.string b) ∧ x.cell? ⟨R, 2, none⟩ = some (.int .i64 (p.1 : Nat)) ∧ x.cell? ⟨R, 3, none⟩ = some (.int .i64 (p.2 : Nat)) :=
  ⟨by rw [Lib.cell_of_heap h]; rfl, by rw [Lib.cell_of_heap h]; rfl, by rw [Lib.cell_of_heap h]; rfl, by rw [Lib.cell_of_heap h]; rfl⟩
theorem TB.free (h : TB R k b p x) : x.frozen? ⟨R, 0, none⟩ = false ∧ x.frozen? ⟨R, 1, none⟩ = false := ⟨Lib.frozen_of_heap h 0, Lib.frozen_of_heap h 1⟩
theorem TB.on (h : TB R k b p x) (hb : Below x.heap.size x y) : TB R k b p y := (hb.block R h.lt).trans h
theorem TB.new (w : World) (k : Int) (b : ByteArray) (p : Nat × Nat) : TB w.heap.size k b p (w.alloc (.cells #[.int .i64 k, .string b, .int .i64 (p.1 : Nat), .int .i64 (p.2 : Nat)] 107)) := heap_alloc_new w _
theorem TB.set0 (h : TB R k b p x) (k' : Int) : TB R k' b p (x.setCell ⟨R, 0, none⟩ (.int .i64 k')) := Lib.heap_setCell_same (i := 0) h (.int .i64 k')
theorem TB.set1 (h : TB R k b p x) (b' : ByteArray) : TB R k b' p (x.setCell ⟨R, 1, none⟩ (.string b')) := Lib.heap_setCell_same (i := 1) h (.string b')
end

theorem build15 (W : World) : (Instr.buildSlice 99 15 #[(0, .int .i64 123), (1, .int .i64 125), (2, .int .i64 91), (3, .int .i64 93), (4, .int .i64 40), (5, .int .i64 41), (6, .int .i64 61), (7, .int .i64 59), (8, .int .i64 44), (9, .int .i64 58), (10, .int .i64 35), (11, .int .i64 42), (12, .int .i64 124), (13, .int .i64 38), (14, .int .i64 45)]).run Tryd.prog W = .ok (.slice (some ⟨W.heap.size, 0, none⟩) 15 15) (W.alloc (.cells #[.int .i64 123, .int .i64 125, .int .i64 91, .int .i64 93, .int .i64 40, .int .i64 41, .int .i64 61, .int .i64 59, .int .i64 44, .int .i64 58, .int .i64 35, .int .i64 42, .int .i64 124, .int .i64 38, .int .i64 45] 3)) := by kernel_rfl
theorem isl15 (W : World) : IsL (W.alloc (.cells #[.int .i64 123, .int .i64 125, .int .i64 91, .int .i64 93, .int .i64 40, .int .i64 41, .int .i64 61, .int .i64 59, .int .i64 44, .int .i64 58, .int .i64 35, .int .i64 42, .int .i64 124, .int .i64 38, .int .i64 45] 3)) W.heap.size 0 signs := by
  refine ⟨by simp, fun j r hj => ?_⟩
  rw [Nat.zero_add, Lib.cell_of_heap (heap_alloc_new W _)]
  have hs : (#[Value.int .i64 123, .int .i64 125, .int .i64 91, .int .i64 93, .int .i64 40, .int .i64 41, .int .i64 61, .int .i64 59, .int .i64 44, .int .i64 58, .int .i64 35, .int .i64 42, .int .i64 124, .int .i64 38, .int .i64 45] : Array Value) = (signs.map fun (r : Nat) => Value.int .i64 (r : Int)).toArray := rfl
  rw [hs]
  simp [hj]
theorem sign_call (r : Nat) (W : World) : Calls Tryd.prog 44 #[.int .i64 (r : Nat), .slice (some ⟨W.heap.size, 0, none⟩) 15 15] (W.alloc (.cells #[.int .i64 123, .int .i64 125, .int .i64 91, .int .i64 93, .int .i64 40, .int .i64 41, .int .i64 61, .int .i64 59, .int .i64 44, .int .i64 58, .int .i64 35, .int .i64 42, .int .i64 124, .int .i64 38, .int .i64 45] 3)) fun e w' => e = .returned (.bool (sign r)) ∧ (W.alloc (.cells #[.int .i64 123, .int .i64 125, .int .i64 91, .int .i64 93, .int .i64 40, .int .i64 41, .int .i64 61, .int .i64 59, .int .i64 44, .int .i64 58, .int .i64 35, .int .i64 42, .int .i64 124, .int .i64 38, .int .i64 45] 3)) = w' :=
  among_any r signs W.heap.size 0 15 _ (isl15 W) (by decide)
theorem kindB_cases (x : ByteArray) :
    ((x.toList == [116, 121, 112, 101]) = true ∧ (x.toList == [114, 101, 108]) = false ∧ (x.toList == [116, 104, 105, 115]) = false ∧ kindB x = 2) ∨
    ((x.toList == [116, 121, 112, 101]) = false ∧ (x.toList == [114, 101, 108]) = true ∧ (x.toList == [116, 104, 105, 115]) = false ∧ kindB x = 3) ∨
    ((x.toList == [116, 121, 112, 101]) = false ∧ (x.toList == [114, 101, 108]) = false ∧ (x.toList == [116, 104, 105, 115]) = true ∧ kindB x = 4) ∨
    ((x.toList == [116, 121, 112, 101]) = false ∧ (x.toList == [114, 101, 108]) = false ∧ (x.toList == [116, 104, 105, 115]) = false ∧ kindB x = 1) := by
  unfold kindB
  generalize x.toList = l
  by_cases h1 : l = [116, 121, 112, 101]
  · subst h1; exact .inl ⟨rfl, rfl, rfl, rfl⟩
  · by_cases h2 : l = [114, 101, 108]
    · subst h2; exact .inr (.inl ⟨rfl, rfl, rfl, rfl⟩)
    · by_cases h3 : l = [116, 104, 105, 115]
      · subst h3; exact .inr (.inr (.inl ⟨rfl, rfl, rfl, rfl⟩))
      · have e1 : (l == [116, 121, 112, 101]) = false := by simpa using h1
        have e2 : (l == [114, 101, 108]) = false := by simpa using h2
        have e3 : (l == [116, 104, 105, 115]) = false := by simpa using h3
        rw [e1, e2, e3]
        exact .inr (.inr (.inr ⟨rfl, rfl, rfl, rfl⟩))
theorem txt_size (l : List Nat) : (txt l).size = l.length := by simp [txt, ByteArray.size]
theorem txt_list (l : List Nat) : (txt l).data.toList = l.map Nat.toUInt8 := by simp [txt]
end Sg
end Go.Proofs.YtbphmaoomnocmaaDoor
