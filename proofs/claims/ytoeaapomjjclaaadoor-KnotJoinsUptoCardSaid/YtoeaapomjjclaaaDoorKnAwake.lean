/-
  The fixed fact with which each statement of layer 4 begins. What is asked: the library's table of powers of ten.
-/
import Derived.Test.YtoeaapomjjclaaaDoorKnD
import Derived.Test.YtoeaapomjjclaaaDoorInC
import Derived.Lib.SmallJoins
namespace Go.Proofs.YtoeaapomjjclaaaDoor
open Go.RowKit Go.Sort
namespace Knot
open Who (bs bs_list bs_size bs_self eq_of_list)

/-- A knot and an untying, apart. -/
structure Both (w : World) (K : Nat) (v : Value) (l : List UInt8) (I : Nat) (s : ByteArray) (f : Bool) (x : World) : Prop where
  knot : Kn w.heap.size x K v l
  inn : Inn x I s f
  apart : ¬ Foot K v I
  base : w.heap.size ≤ I
  below : Below w.heap.size w x
theorem Both.step {w x y : World} {K I : Nat} {v v' : Value} {l l' : List UInt8} {s : ByteArray} {f : Bool} (h : Both w K v l I s f x) (hk : Kn w.heap.size y K v' l') (hs : KStep K v v' x y) : Both w K v' l' I s f y := by
  refine ⟨hk, h.inn.keep hs.turns h.apart, ?_, h.base, h.below.trans (hs.below h.knot)⟩
  rintro (e | e)
  · exact h.apart (.inl e)
  · rcases hs.new I e with h' | h'
    · exact h.apart (.inr h')
    · have := h.inn.lt
      omega
theorem Both.on {w x y : World} {K I : Nat} {v : Value} {l : List UInt8} {s : ByteArray} {f : Bool} (h : Both w K v l I s f x) (hb : Below x.heap.size x y) : Both w K v l I s f y :=
  ⟨h.knot.keep_below hb, h.inn.below hb, h.apart, h.base, h.below.trans (hb.mono h.below.size)⟩

theorem tied_12 : ([] ++ number 12 ++ textB (ByteArray.mk #[97, 98]).data.toList ++ markB true : List UInt8) = [49, 50, 59, 50, 59, 97, 98, 44, 43] := by
  simp only [number, textB, markB, if_true]
  rw [digits_high (show ¬ 12 < 10 by omega), digits_low (show 12 / 10 < 10 by omega), digits_low (show (ByteArray.mk #[97, 98]).data.toList.length < 10 by decide)]
  decide
theorem text_12 : ((bs [49, 50, 59, 50, 59, 97, 98, 44, 43]).toList == [49, 50, 59, 50, 59, 97, 98, 44, 43]) = true := by rw [Lib.toList_data, bs_list]; decide +kernel
theorem bytes_lit (W : World) (b : Nat) (T : TypeId) (fz : Nat × Nat) (hb : b = W.heap.size) :
    (Go.convert 43 9 (.slice (some ⟨b, 0, none⟩) 4 4)).run Tryd.prog (W.alloc (.cells #[.int .u8 48, .int .u8 49, .int .u8 50, .int .u8 59] T fz)) = .ok (.string ⟨#[48, 49, 50, 59]⟩) (W.alloc (.cells #[.int .u8 48, .int .u8 49, .int .u8 50, .int .u8 59] T fz)) :=
  run_convert_bytes_back (P := Tryd.prog) _ 43 9 5 ⟨b, 0, none⟩ 4 [48, 49, 50, 59] Tryd.underlying43 Tryd.underlying5 Tryd.underlying9 (fun j hj => by
    subst hb
    rw [Lib.add_plain, Nat.zero_add, World.cell?_alloc_mark]
    match j, hj with
    | 0, _ => rfl
    | 1, _ => rfl
    | 2, _ => rfl
    | 3, _ => rfl)

set_option maxHeartbeats 4000000 in
set_option maxRecDepth 100000 in
theorem awake_any (w : World) (htab : Tab w.heap.size w) : Calls Tryd.prog 8 #[] w fun e x => e = .returned (.bool true) ∧ Below w.heap.size w x := by
  have HN := Lib.hid (new_any w)
  have HT := Lib.hid htab
  clear htab
  go_enter Tryd.func8, Tryd.ntmps8
  go_wp2_with fail
  refine HN.out.mono ?_
  rintro e w1 ⟨K, rfl, hK, k1, b1⟩
  have kc := Go.Joins.run_convert_bytes_const_at (P := Tryd.prog) w1 43 5 #[.int .u8 48, .int .u8 49, .int .u8 50, .int .u8 59] 4 4 w1.heap.size rfl Tryd.underlying43 Tryd.underlying5
  obtain ⟨w2, hw2⟩ : ∃ w2, w2 = w1.alloc (.cells #[.int .u8 48, .int .u8 49, .int .u8 50, .int .u8 59] 5 (4, 5)) := ⟨_, rfl⟩
  have b2 : Below w1.heap.size w1 w2 := by rw [hw2]; exact (Below.refl _ _).alloc (Nat.le_refl _) _
  have hcv := bytes_lit w1 w1.heap.size 5 (4, 5) rfl
  have hsz : (#[Value.int .u8 48, .int .u8 49, .int .u8 50, .int .u8 59] : Array Value).size = 4 := rfl
  rw [hsz] at kc
  rw [← hw2] at kc hcv
  have HO := Lib.hid (open_any (.slice (some ⟨w1.heap.size, 0, none⟩) 4 4) ⟨#[48, 49, 50, 59]⟩ w2 (fun W hW => by rw [hW]; exact hcv))
  have K2 := Lib.hid (And.intro hK (And.intro (k1.keep_below b2) (b1.trans (b2.mono b1.size))))
  clear hK k1 b1 b2 HN hcv hw2 hsz
  go_wp2_with fail
  refine HO.out.mono ?_
  rintro e w3 ⟨rfl, i3, b3⟩
  have S3 : Both w K (.slice none 0 0) [] w2.heap.size ⟨#[48, 49, 50, 59]⟩ false w3 := by
    obtain ⟨hK, k2, bb⟩ := K2.out
    have z := k2.lt
    refine ⟨k2.keep_below b3, i3, ?_, bb.size, bb.trans (b3.mono bb.size)⟩
    rintro (e | e)
    · omega
    · cases e
  have HS3 := Lib.hid S3
  have n4 := number_good w.heap.size K 12 (.slice none 0 0) [] w3 S3.knot (by omega) (by simp) (HT.out.on S3.below)
  rw [show ((12 : Nat) : Int) = 12 from rfl] at n4
  have HN4 := Lib.hid n4
  clear n4 S3 i3 b3 K2 HO kc
  obtain ⟨I, hI⟩ : ∃ I, I = w2.heap.size := ⟨_, rfl⟩
  rw [← hI] at HS3 ⊢
  clear hI
  go_wp2_with fail
  refine HN4.out.mono ?_
  rintro e w4 ⟨rfl, v4, k4, s4⟩
  have S4 := HS3.out.step k4 s4
  have HS4 := Lib.hid S4
  have HN5 := Lib.hid (text_any w.heap.size K v4 _ ⟨#[97, 98]⟩ w4 S4.knot (by simp [number]; have := len_digits (n := 12) (by omega); omega) (by decide) (HT.out.on S4.below))
  clear S4 k4 s4 HN4 HS3
  go_wp2_with fail
  refine HN5.out.mono ?_
  rintro e w5 ⟨rfl, v5, k5, s5⟩
  have S5 := HS4.out.step k5 s5
  have HS5 := Lib.hid S5
  have hlen := congrArg List.length tied_12
  rw [List.length_append, show ([49, 50, 59, 50, 59, 97, 98, 44, 43] : List UInt8).length = 9 from rfl] at hlen
  have HN6 := Lib.hid (mark_any w.heap.size K v5 _ true w5 S5.knot (Nat.le_trans (Nat.le_of_add_right_le (Nat.le_of_eq hlen)) (by decide)))
  clear S5 k5 s5 HN5 HS4 hlen
  go_wp2_with fail
  refine HN6.out.mono ?_
  rintro e w6 ⟨rfl, v6, k6, s6⟩
  have S6 := HS5.out.step k6 s6
  rw [tied_12] at S6
  have HS6 := Lib.hid S6
  have HN7 := Lib.hid (bytes_any w.heap.size K v6 _ w6 S6.knot (by simp) (by simp))
  clear S6 k6 s6 HN6 HS5
  go_wp2_with fail
  refine HN7.out.mono ?_
  rintro e w7 ⟨g, cap, rfl, o7, b7⟩
  have S7 := HS6.out.on b7
  have hcv : (Go.convert 43 9 (.slice (some ⟨g, 0, none⟩) 9 cap)).run Tryd.prog w7 = .ok (.string (bs [49, 50, 59, 50, 59, 97, 98, 44, 43])) w7 := conv_bytes o7
  have ht := text_12
  generalize bs [49, 50, 59, 50, 59, 97, 98, 44, 43] = u at *
  have HS7 := Lib.hid S7
  have HN8 := Lib.hid (number_fail I _ false 99 w7 S7.inn fun W => number_nought W)
  clear S7 o7 b7 HN7 HS6
  go_wp2_with fail
  refine HN8.out.mono ?_
  rintro e w8 ⟨rfl, i8, t8⟩
  have b8 : Below w.heap.size w w8 := HS7.out.below.trans (t8.below HS7.out.below.size fun k hk => by rw [hk]; exact HS7.out.base)
  have HN9 := Lib.hid (end_any I true w8 i8)
  have HB := Lib.hid b8
  clear i8 t8 b8 HN8 HS7 hcv
  go_wp2_with fail
  refine HN9.out.mono ?_
  rintro e w9 ⟨rfl, rfl⟩
  go_wp2
  go_ret
  exact ⟨rfl, HB.out⟩
theorem own_below {w x : World} {b n : Nat} {e : TypeId} {v : Value} {xs : List Value} (h : w.ownsRow b e 1 v n xs) (hb : Below w.heap.size w x) : x.ownsRow b e 1 v n xs := own_turn h (Turns.of_below (F := fun _ => False) hb) fun _ _ h => h
theorem tab_boxed {w : World} {o : Obj} (h : Tab w.heap.size w) : Tab (w.alloc o).heap.size (w.alloc o) := fun x hx => h x (((Below.refl _ _).alloc (Nat.le_refl _) _).trans (hx.mono (by simp)))
theorem tab_on {w x : World} (h : Tab w.heap.size w) (hb : Below w.heap.size w x) : Tab w.heap.size x := fun y hy => h y (hb.trans hy)
theorem tab_up {w x : World} (h : Tab w.heap.size w) (hb : Below w.heap.size w x) : Tab x.heap.size x := fun y hy => h y (hb.trans (hy.mono hb.size))
end Knot
end Go.Proofs.YtoeaapomjjclaaaDoor
