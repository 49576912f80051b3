/-
  Layer 4 (knot): texts and marks taken, what is left, and whether it ended right.
-/
import Derived.Test.YtoeaapomjjclaaaDoorInB
namespace Go.Proofs.YtoeaapomjjclaaaDoor
open Go.RowKit Go.Sort
namespace Knot
open Who (bs bs_list bs_size bs_self eq_of_list)

theorem text_none (I : Nat) (f : Bool) (most : Int) (w : World) (h : Inn w I ⟨#[]⟩ f) :
    Calls Tryd.prog 25 #[iptr I, .int .i64 most] w fun e x => e = .returned (.string ⟨#[]⟩) ∧ Inn x I ⟨#[]⟩ true ∧ Turns (At I) w x := by
  have HN := Lib.hid (number_none I f most w h)
  have HF := Lib.hid (fun W => fail_any I ⟨#[]⟩ true W)
  clear h
  go_enter Tryd.func25, Tryd.ntmps25
  go_wp2_with fail
  refine HN.out.mono ?_
  rintro e w1 ⟨rfl, h1, t1⟩
  obtain ⟨⟨c0, f0⟩, -⟩ := h1.cells
  have H1 := Lib.hid h1
  clear h1
  go_wp2_with fail
  refine (HF.out _ H1.out).mono ?_
  rintro e w2 ⟨rfl, h2, t2⟩
  go_wp2
  go_ret
  exact ⟨rfl, h2, t1.trans t2 fun _ _ h => h⟩

theorem text_goes (I : Nat) (s t : ByteArray) (y : List UInt8) (f : Bool) (most : Int) (w : World) (h : Inn w I s f) (hs : s.data.toList = textB t.data.toList ++ y) (ht : t.size ≤ 4000000) (hm : (t.size : Int) ≤ most) :
    Calls Tryd.prog 25 #[iptr I, .int .i64 most] w fun e x => e = .returned (.string t) ∧ Inn x I (bs y) f ∧ Turns (At I) w x := by
  obtain ⟨z, hz⟩ : ∃ z, z = t.data.toList ++ (44 :: y) := ⟨_, rfl⟩
  have hs2 : s.data.toList = number t.size ++ z := by rw [hs, textB, ← Lib.size_eq, hz]; simp
  have hzl : z.length = t.size + 1 + y.length := by rw [hz, List.length_append, ← Lib.size_eq, List.length_cons]; omega
  have HN := Lib.hid (number_goes I t.size s z f most w h hs2 (by omega) hm)
  have HC := Lib.hid (fun W => Who.clone_any t W ht)
  have hsz : (bs z).size = t.size + 1 + y.length := by rw [bs_size, hzl]
  have hb : (bs z).data.toList[t.size]? = some 44 := by
    rw [bs_list, hz, List.getElem?_append_right (by rw [← Lib.size_eq]; exact Nat.le_refl _), ← Lib.size_eq, Nat.sub_self]
    rfl
  have e1 : (bs z).extract 0 t.size = t := by
    apply eq_of_list
    rw [Who.bs_cut, bs_list, bs_list, List.drop_zero, Nat.sub_zero, hz, Lib.size_eq]
    exact List.take_left
  have e2 : (bs z).extract (t.size + 1) (bs z).size = bs y := by
    apply eq_of_list
    rw [Gl.extract_list, bs_list, bs_list, hz, Lib.size_eq, show t.data.toList ++ 44 :: y = (t.data.toList ++ [44]) ++ y by simp]
    rw [show t.data.toList.length + 1 = (t.data.toList ++ [44]).length by simp]
    exact List.drop_left
  obtain ⟨u, hu⟩ : ∃ u, u = bs z := ⟨_, rfl⟩
  rw [← hu] at hsz hb e1 e2 HN
  have hix : ∀ W, (Instr.index 9 (.string u) (.int .i64 (t.size : Int))).run Tryd.prog W = .ok (.int .u8 44) W := fun W => by
    obtain ⟨hk, hbb⟩ := byte_of hb
    rw [run_index_string W 9 u .i64 _ Tryd.underlying9, dif_pos ⟨by omega, by omega⟩]
    have e : ((t.size : Int)).toNat = t.size := by omega
    simp only [e]
    rw [hbb]
    rfl
  have hs1 : ∀ W, (Instr.slice 9 (.string u) none (some (.int .i64 (t.size : Int))) none).run Tryd.prog W = .ok (.string t) W := fun W => by
    rw [run_slice_string_to_if _ 9 u .i64 (t.size : Int) Tryd.underlying9, if_pos (by omega), Int.toNat_natCast, e1]
  have hs3 : ∀ W, (Instr.slice 9 (.string u) (some (.int .i64 ((t.size : Int) + 1))) none none).run Tryd.prog W = .ok (.string (bs y)) W := fun W => by
    rw [run_slice_string_from_if _ 9 u .i64 ((t.size : Int) + 1) Tryd.underlying9, if_pos (by omega), show ((t.size : Int) + 1).toNat = t.size + 1 by omega, e2]
  have hlt : t.size < u.size := by omega
  have hcmp : ¬ ((u.size : Int) ≤ (t.size : Int)) := by omega
  clear h hs hs2 hzl hb e1 e2 hu hz hm hsz
  go_enter Tryd.func25, Tryd.ntmps25
  go_wp2_with fail
  refine HN.out.mono ?_
  rintro e w1 ⟨rfl, h1, t1⟩
  obtain ⟨⟨c0, f0⟩, -⟩ := h1.cells
  have H1 := Lib.hid h1
  clear h1 HN
  go_wp2_with fail
  refine (HC.out _).mono ?_
  rintro e w2 ⟨rfl, b2⟩
  have h2 := H1.out.below b2
  clear c0 f0
  obtain ⟨⟨c0, f0⟩, -⟩ := h2.cells
  have H2 := Lib.hid h2
  clear h2
  go_wp2
  go_ret
  exact ⟨rfl, H2.out.put0 _, (t1.then_below b2).setCell (by rfl) _⟩

theorem mark_none (I : Nat) (f : Bool) (w : World) (h : Inn w I ⟨#[]⟩ f) :
    Calls Tryd.prog 26 #[iptr I] w fun e x => e = .returned (.bool false) ∧ Inn x I ⟨#[]⟩ true ∧ Turns (At I) w x := by
  obtain ⟨⟨c0, f0⟩, -⟩ := h.cells
  have H := Lib.hid h
  have HN := Lib.hid (fun W => front_empty W)
  have HF := Lib.hid (fun W => fail_any I ⟨#[]⟩ f W)
  clear h
  go_enter Tryd.func26, Tryd.ntmps26
  go_wp2_with fail
  refine (HN.out _).mono ?_
  rintro e w1 ⟨rfl, b1⟩
  have h1 := H.out.below b1
  clear c0 f0
  go_wp2_with fail
  refine (HF.out _ h1).mono ?_
  rintro e w2 ⟨rfl, h2, t2⟩
  go_wp2
  go_ret
  exact ⟨rfl, h2, t2.after_below b1⟩
theorem mark_goes (I : Nat) (s : ByteArray) (m : Bool) (y : List UInt8) (f : Bool) (w : World) (h : Inn w I s f) (hs : s.data.toList = markB m ++ y) :
    Calls Tryd.prog 26 #[iptr I] w fun e x => e = .returned (.bool m) ∧ Inn x I (bs y) f ∧ Turns (At I) w x := by
  obtain ⟨⟨c0, f0⟩, -⟩ := h.cells
  have hsz : 1 ≤ s.size := by rw [Lib.size_eq, hs]; cases m <;> simp [markB]
  have hsl : ∀ W, (Instr.slice 9 (.string s) (some (.int .i64 1)) none none).run Tryd.prog W = .ok (.string (bs y)) W := fun W => by
    rw [run_slice_string_from_if _ 9 s .i64 1 Tryd.underlying9, if_pos (by omega)]
    have e : s.extract (1 : Int).toNat s.size = bs y := by
      apply eq_of_list
      rw [bs_list, show (1 : Int).toNat = 1 from rfl, Gl.extract_list, hs]
      cases m <;> rfl
    rw [e]
  have H := Lib.hid h
  cases m with
  | true =>
    have HN := Lib.hid (fun W => front_byte s 43 y W hs (by decide))
    clear h hs
    go_enter Tryd.func26, Tryd.ntmps26
    go_wp2_with fail
    refine (HN.out _).mono ?_
    rintro e w1 ⟨rfl, b1⟩
    rw [show ((43 : UInt8).toNat : Int) = 43 from rfl]
    have h1 := H.out.below b1
    clear c0 f0
    obtain ⟨⟨c0, f0⟩, -⟩ := h1.cells
    have H1 := Lib.hid h1
    clear h1
    go_wp2
    go_ret
    exact ⟨rfl, H1.out.put0 _, (Turns.of_below b1).setCell (by rfl) _⟩
  | false =>
    have HN := Lib.hid (fun W => front_byte s 45 y W hs (by decide))
    clear h hs
    go_enter Tryd.func26, Tryd.ntmps26
    go_wp2_with fail
    refine (HN.out _).mono ?_
    rintro e w1 ⟨rfl, b1⟩
    rw [show ((45 : UInt8).toNat : Int) = 45 from rfl]
    have h1 := H.out.below b1
    clear c0 f0
    obtain ⟨⟨c0, f0⟩, -⟩ := h1.cells
    have H1 := Lib.hid h1
    clear h1
    go_wp2
    go_ret
    exact ⟨rfl, H1.out.put0 _, (Turns.of_below b1).setCell (by rfl) _⟩

theorem left_any (I : Nat) (s : ByteArray) (f : Bool) (w : World) (h : Inn w I s f) :
    Calls Tryd.prog 30 #[iptr I] w fun e x => e = .returned (.int .i64 (s.size : Nat)) ∧ x = w := by
  obtain ⟨⟨c0, f0⟩, -⟩ := h.cells
  clear h
  go_enter Tryd.func30, Tryd.ntmps30
  go_wp2
  go_ret
  exact ⟨rfl, rfl⟩
theorem end_any (I : Nat) (f : Bool) (w : World) (h : Inn w I ⟨#[]⟩ f) :
    Calls Tryd.prog 31 #[iptr I] w fun e x => e = .returned (.int .i64 (if f then 2 else 0)) ∧ x = w := by
  obtain ⟨⟨c0, f0⟩, ⟨c1, f1⟩⟩ := h.cells
  clear h
  cases f
  all_goals
    go_enter Tryd.func31, Tryd.ntmps31
    go_wp2
    go_ret
    exact ⟨rfl, rfl⟩
end Knot
end Go.Proofs.YtoeaapomjjclaaaDoor
