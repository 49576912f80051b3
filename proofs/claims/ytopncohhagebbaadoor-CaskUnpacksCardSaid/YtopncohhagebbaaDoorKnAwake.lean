/-
  The fixed fact with which each statement of layer 4 begins. What is asked: the library's table of powers of ten.
-/
import Derived.Test.YtopncohhagebbaaDoorKgK
import Derived.Test.YtopncohhagebbaaDoorKgI
import Derived.Lib.SmallJoins
namespace Go.Proofs.YtopncohhagebbaaDoor
open Go.RowKit Go.Sort
namespace Knot
open Who (bs bs_list bs_size bs_self eq_of_list)

/-- A knot and an untying, apart. -/
structure Both (w : World) (K : Nat) (v : Value) (l : List UInt8) (I : Nat) (s : ByteArray) (f : Bool) (x : World) : Prop where
  knot : Kn w.heap.size x K v l
  inn : Inn x I s f
  apart : ¬ Foot K v I
  base : w.heap.size ≤ I
  below : Below w.heap.size w x
theorem Both.step {w x y : World} {K I : Nat} {v v' : Value} {l l' : List UInt8} {s : ByteArray} {f : Bool} (h : Both w K v l I s f x) (hk : Kn w.heap.size y K v' l') (hs : KStep K v v' x y) : Both w K v' l' I s f y := by
  refine ⟨hk, h.inn.keep hs.turns h.apart, ?_, h.base, h.below.trans (hs.below h.knot)⟩
  rintro (e | e)
  · exact h.apart (.inl e)
  · rcases hs.new I e with h' | h'
    · exact h.apart (.inr h')
    · have := h.inn.lt
      omega
theorem Both.on {w x y : World} {K I : Nat} {v : Value} {l : List UInt8} {s : ByteArray} {f : Bool} (h : Both w K v l I s f x) (hb : Below x.heap.size x y) : Both w K v l I s f y :=
  ⟨h.knot.keep_below hb, h.inn.below hb, h.apart, h.base, h.below.trans (hb.mono h.below.size)⟩

theorem tied_12 : ([] ++ number 12 ++ textB (ByteArray.mk #[97, 98]).data.toList ++ markB true : List UInt8) = [49, 50, 59, 50, 59, 97, 98, 44, 43] := by
  simp only [number, textB, markB, if_true]
  rw [digits_high (show ¬ 12 < 10 by omega), digits_low (show 12 / 10 < 10 by omega), digits_low (show (ByteArray.mk #[97, 98]).data.toList.length < 10 by decide)]
  decide
theorem text_12 : ((bs [49, 50, 59, 50, 59, 97, 98, 44, 43]).toList == [49, 50, 59, 50, 59, 97, 98, 44, 43]) = true := by rw [Lib.toList_data, bs_list]; decide +kernel
theorem bytes_lit (W : World) (b : Nat) (T : TypeId) (fz : Nat × Nat) (hb : b = W.heap.size) :
    (Go.convert 22 9 (.slice (some ⟨b, 0, none⟩) 4 4)).run Tryd.prog (W.alloc (.cells #[.int .u8 48, .int .u8 49, .int .u8 50, .int .u8 59] T fz)) = .ok (.string ⟨#[48, 49, 50, 59]⟩) (W.alloc (.cells #[.int .u8 48, .int .u8 49, .int .u8 50, .int .u8 59] T fz)) :=
  run_convert_bytes_back (P := Tryd.prog) _ 22 9 5 ⟨b, 0, none⟩ 4 [48, 49, 50, 59] Tryd.underlying22 Tryd.underlying5 Tryd.underlying9 (fun j hj => by
    subst hb
    rw [Lib.add_plain, Nat.zero_add, World.cell?_alloc_mark]
    match j, hj with
    | 0, _ => rfl
    | 1, _ => rfl
    | 2, _ => rfl
    | 3, _ => rfl)

theorem own_below {w x : World} {b n : Nat} {e : TypeId} {v : Value} {xs : List Value} (h : w.ownsRow b e 1 v n xs) (hb : Below w.heap.size w x) : x.ownsRow b e 1 v n xs := own_turn h (Turns.of_below (F := fun _ => False) hb) fun _ _ h => h
theorem tab_boxed {w : World} {o : Obj} (h : Tab w.heap.size w) : Tab (w.alloc o).heap.size (w.alloc o) := fun x hx => h x (((Below.refl _ _).alloc (Nat.le_refl _) _).trans (hx.mono (by simp)))
theorem tab_on {w x : World} (h : Tab w.heap.size w) (hb : Below w.heap.size w x) : Tab w.heap.size x := fun y hy => h y (hb.trans hy)
theorem tab_up {w x : World} (h : Tab w.heap.size w) (hb : Below w.heap.size w x) : Tab x.heap.size x := fun y hy => h y (hb.trans (hy.mono hb.size))
end Knot
end Go.Proofs.YtopncohhagebbaaDoor
