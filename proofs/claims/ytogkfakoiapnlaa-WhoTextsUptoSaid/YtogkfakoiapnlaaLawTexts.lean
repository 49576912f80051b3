/-
  The statement WhoTexts at every subject of bounded size.
-/
import Derived.Test.YtogkfakoiapnlaaWhoF
import Derived.Test.YtogkfakoiapnlaaClass
import Derived.Laws.StructEq
namespace Go.Proofs.Ytogkfakoiapnlaa
open Go.RowKit
namespace LawTexts
open Who

theorem Held.box3 (w : World) (T : TypeId) (a0 a1 a2 : Value) :
    Held w [(⟨w.heap.size, 0, none⟩, a0), (⟨w.heap.size, 1, none⟩, a1), (⟨w.heap.size, 2, none⟩, a2)] (w.alloc (.cells #[a0, a1, a2] T)) := Held.one3 w T a0 a1 a2

/-- A subject that isn't good. -/
theorem walk_none (t i r : ByteArray) (w : World) (ht : t.size ≤ 1048576) (hi : i.size ≤ 1048576) (hr : r.size ≤ 1048576) (hk : kind t.data.toList i.data.toList r.data.toList = 0) :
    Calls Try.prog 3 #[.agg #[.string t, .string i, .string r]] w fun e w' => e = .returned (.bool true) ∧ Below w.heap.size w w' := by
  have HA := Lib.hid (fun w => awake_any w)
  have h1 := fun w => kindR_any t i r w (by omega) (by omega) (by omega)
  rw [hk] at h1
  have H1 := Lib.hid h1
  clear h1 hk
  go_enter Try.func3, Try.ntmps3
  go_wp2_with fail
  refine (HA.out _).mono ?_
  rintro e w1 ⟨rfl, b1⟩
  have I1 := Held.step b1 (Held.box3 w _ _ _ _)
  have q := I1.all
  simp only [List.forall_mem_cons] at q
  obtain ⟨⟨_, k0, _⟩, ⟨_, k1, _⟩, ⟨_, k2, _⟩, _⟩ := q
  clear b1
  go_wp2_with fail
  refine (H1.out _).mono ?_
  rintro e w2 ⟨rfl, b2⟩
  have I2 := Held.step b2 I1
  clear b2
  go_wp2_with fail
  refine (HA.out _).mono ?_
  rintro e w3 ⟨rfl, b3⟩
  have I3 := Held.step b3 I2
  clear b3
  go_wp2
  go_ret
  exact ⟨rfl, I3.below⟩

set_option maxHeartbeats 4000000 in
/-- A subject that is one. -/
theorem walk_one (t i r : ByteArray) (w : World) (ht : t.size ≤ 1048576) (hi : i.size ≤ 1048576) (hr : r.size ≤ 1048576) (hk : kind t.data.toList i.data.toList r.data.toList = 1) :
    Calls Try.prog 3 #[.agg #[.string t, .string i, .string r]] w fun e w' => e = .returned (.bool true) ∧ Below w.heap.size w w' := by
  have HA := Lib.hid (fun w => awake_any w)
  have h1 := fun w => kindR_any t i r w (by omega) (by omega) (by omega)
  have h2 := fun w => text_any t i r w (by omega) (by omega) (by omega)
  have h5 := fun w => textR_any t i r w (by omega) (by omega) (by omega)
  have hlen := kind_len (t := t.data.toList) (i := i.data.toList) (r := r.data.toList) (by omega)
  have htr := text_read (t := t.data.toList) (i := i.data.toList) (r := r.data.toList) (by omega)
  have hvs : (textV t i r).size ≤ 4000000 := by
    rw [textV, bs_size, text, List.length_append, List.length_cons, List.length_append]
    split
    · simp; omega
    · simp; omega
  have h3 := fun w => read_any (textV t i r) w hvs
  have h4 := fun w => readO_any (textV t i r) w hvs
  have hro : readO (textV t i r).data.toList = some (t.data.toList, i.data.toList) := by
    rw [textV, bs_list, readO, htr]
    exact if_pos hk
  rw [hro] at h4
  rw [show read (textV t i r).data.toList = some (t.data.toList, i.data.toList, r.data.toList) by rw [textV, bs_list]; exact htr] at h3
  unfold readV subjV at h3
  unfold readOV at h4
  simp only [bs_self] at h3 h4
  rw [hk] at h1
  generalize textV t i r = v at *
  have H1 := Lib.hid h1
  have H2 := Lib.hid h2
  have H3 := Lib.hid h3
  have H4 := Lib.hid h4
  have H5 := Lib.hid h5
  have H6 := Lib.hid (fun w => object_any t i r w (by omega) (by omega))
  clear h1 h2 h3 h4 h5 hk hlen htr hro hvs
  go_enter Try.func3, Try.ntmps3
  go_wp2_with fail
  refine (HA.out _).mono ?_
  rintro e w1 ⟨rfl, b1⟩
  have I1 := Held.step b1 (Held.box3 w _ _ _ _)
  have q := I1.all
  simp only [List.forall_mem_cons] at q
  obtain ⟨⟨_, k0, _⟩, ⟨_, k1, _⟩, ⟨_, k2, _⟩, _⟩ := q
  clear b1
  go_wp2_with fail
  refine (H1.out _).mono ?_
  rintro e w2 ⟨rfl, b2⟩
  have I2 := Held.step b2 I1
  have q := I2.all
  simp only [List.forall_mem_cons] at q
  clear b2 k0 k1 k2
  obtain ⟨⟨_, k0, _⟩, ⟨_, k1, _⟩, ⟨_, k2, _⟩, _⟩ := q
  go_wp2_with fail
  refine (H2.out _).mono ?_
  rintro e w3 ⟨rfl, b3⟩
  have I3 := Held.step b3 I2
  clear b3 k0 k1 k2
  go_wp2_with fail
  refine (H3.out _).mono ?_
  rintro e w4 ⟨rfl, b4⟩
  have I4 := Held.step b4 I3
  clear b4
  go_wp2_with fail
  refine (H4.out _).mono ?_
  rintro e w5 ⟨rfl, b5⟩
  have I5 := Held.step b5 (I4.more3 _ _ _ _)
  clear b5
  have I6 := I5.more2 31 (.string t) (.string i)
  have q := I6.all
  simp only [List.forall_mem_cons] at q
  obtain ⟨_, _, _, _, _, ⟨_, k0, _⟩, ⟨_, k1, _⟩, ⟨_, k2, _⟩, _⟩ := q
  go_wp2_with fail
  refine (H1.out _).mono ?_
  rintro e w6 ⟨rfl, b6⟩
  have I7 := Held.step b6 I6
  clear b6 k0 k1 k2
  go_wp2_with fail
  generalize w4.heap.size = B4 at *
  generalize w5.heap.size = B5 at *
  clear I1 I2 I3 I4 I5 I6
  refine wp_region_class (C := fun x => Held w [(⟨B5, 0, none⟩, .string t), (⟨B5, 1, none⟩, .string i), (⟨B4, 0, none⟩, .string t), (⟨B4, 1, none⟩, .string i), (⟨B4, 2, none⟩, .string r), (⟨w.heap.size, 0, none⟩, .string t), (⟨w.heap.size, 1, none⟩, .string i), (⟨w.heap.size, 2, none⟩, .string r)] x) (by kernel_rfl) (by kernel_rfl) I7.drew ?_
  clear I7
  repeat (first
    | go_big_quiet_skip
    | (go_big_quiet_want
       apply quiet_of
       · intro x hx
         first
           | (go_simp; rfl)
           | (have q := hx.2
              simp only [List.forall_mem_cons] at q
              obtain ⟨⟨-, o0, -⟩, ⟨-, o1, -⟩, ⟨-, x0, -⟩, ⟨-, x1, -⟩, ⟨-, x2, -⟩, ⟨-, k0, -⟩, ⟨-, k1, -⟩, ⟨-, k2, -⟩, -⟩ := q
              first
                | (go_simp; rfl)
                | (go_simp; go_at_call 11; refine (H5.out _).mono ?_; rintro e w7 ⟨rfl, b7⟩; exact ⟨rfl, Held.step b7 hx⟩)
                | (go_simp; go_at_call 12; refine (H6.out _).mono ?_; rintro e w7 ⟨rfl, b7⟩; exact ⟨rfl, Held.step b7 hx⟩))
       simp only [Act.put, List.setIfInBounds_toArray, List.set_cons_zero, List.set_cons_succ]
       go_big_quiet_on))
  refine wpQuiet_nil ?_
  intro x hx
  go_wp2
  go_ret
  exact ⟨by simp, hx.below⟩
set_option maxHeartbeats 4000000 in
/-- A subject that is a set, or all. -/
theorem walk_other (t i r : ByteArray) (w : World) (ht : t.size ≤ 1048576) (hi : i.size ≤ 1048576) (hr : r.size ≤ 1048576) (hk0 : kind t.data.toList i.data.toList r.data.toList ≠ 0) (hk : kind t.data.toList i.data.toList r.data.toList ≠ 1) :
    Calls Try.prog 3 #[.agg #[.string t, .string i, .string r]] w fun e w' => e = .returned (.bool true) ∧ Below w.heap.size w w' := by
  have HA := Lib.hid (fun w => awake_any w)
  have h1 := fun w => kindR_any t i r w (by omega) (by omega) (by omega)
  have h2 := fun w => text_any t i r w (by omega) (by omega) (by omega)
  have h5 := fun w => textR_any t i r w (by omega) (by omega) (by omega)
  have hlen := kind_len (t := t.data.toList) (i := i.data.toList) (r := r.data.toList) hk0
  have htr := text_read (t := t.data.toList) (i := i.data.toList) (r := r.data.toList) hk0
  have hvs : (textV t i r).size ≤ 4000000 := by
    rw [textV, bs_size, text, List.length_append, List.length_cons, List.length_append]
    split
    · simp; omega
    · simp; omega
  have h3 := fun w => read_any (textV t i r) w hvs
  have h4 := fun w => readO_any (textV t i r) w hvs
  have hro : readO (textV t i r).data.toList = none := by
    rw [textV, bs_list, readO, htr]
    exact if_neg hk
  rw [hro] at h4
  rw [show read (textV t i r).data.toList = some (t.data.toList, i.data.toList, r.data.toList) by rw [textV, bs_list]; exact htr] at h3
  unfold readV subjV at h3
  unfold readOV at h4
  simp only [bs_self] at h3 h4
  generalize textV t i r = v at *
  generalize kind t.data.toList i.data.toList r.data.toList = k at *
  have b0 : ((k : Int) == 0) = false := by simp; omega
  have b1 : ((k : Int) == 1) = false := by simp; omega
  have H1 := Lib.hid h1
  have H2 := Lib.hid h2
  have H3 := Lib.hid h3
  have H4 := Lib.hid h4
  have H5 := Lib.hid h5
  clear h1 h2 h3 h4 h5 hk hk0 hlen htr hro hvs
  go_enter Try.func3, Try.ntmps3
  go_wp2_with fail
  refine (HA.out _).mono ?_
  rintro e w1 ⟨rfl, b1⟩
  have I1 := Held.step b1 (Held.box3 w _ _ _ _)
  have q := I1.all
  simp only [List.forall_mem_cons] at q
  obtain ⟨⟨_, k0, _⟩, ⟨_, k1, _⟩, ⟨_, k2, _⟩, _⟩ := q
  clear b1
  go_wp2_with fail
  refine (H1.out _).mono ?_
  rintro e w2 ⟨rfl, b2⟩
  have I2 := Held.step b2 I1
  have q := I2.all
  simp only [List.forall_mem_cons] at q
  clear b2 k0 k1 k2
  obtain ⟨⟨_, k0, _⟩, ⟨_, k1, _⟩, ⟨_, k2, _⟩, _⟩ := q
  go_wp2_with fail
  refine (H2.out _).mono ?_
  rintro e w3 ⟨rfl, b3⟩
  have I3 := Held.step b3 I2
  clear b3 k0 k1 k2
  go_wp2_with fail
  refine (H3.out _).mono ?_
  rintro e w4 ⟨rfl, b4⟩
  have I4 := Held.step b4 I3
  clear b4
  go_wp2_with fail
  refine (H4.out _).mono ?_
  rintro e w5 ⟨rfl, b5⟩
  have I5 := Held.step b5 (I4.more3 _ _ _ _)
  clear b5
  have I6 := I5.more2 31 (.string ⟨#[]⟩) (.string ⟨#[]⟩)
  have q := I6.all
  simp only [List.forall_mem_cons] at q
  obtain ⟨_, _, _, _, _, ⟨_, k0, _⟩, ⟨_, k1, _⟩, ⟨_, k2, _⟩, _⟩ := q
  go_wp2_with fail
  refine (H1.out _).mono ?_
  rintro e w6 ⟨rfl, b6⟩
  have I7 := Held.step b6 I6
  clear b6 k0 k1 k2
  go_wp2_with fail
  generalize w4.heap.size = B4 at *
  generalize w5.heap.size = B5 at *
  clear I1 I2 I3 I4 I5 I6
  refine wp_region_class (C := fun x => Held w [(⟨B5, 0, none⟩, .string ⟨#[]⟩), (⟨B5, 1, none⟩, .string ⟨#[]⟩), (⟨B4, 0, none⟩, .string t), (⟨B4, 1, none⟩, .string i), (⟨B4, 2, none⟩, .string r), (⟨w.heap.size, 0, none⟩, .string t), (⟨w.heap.size, 1, none⟩, .string i), (⟨w.heap.size, 2, none⟩, .string r)] x) (by kernel_rfl) (by kernel_rfl) I7.drew ?_
  clear I7
  repeat (first
    | go_big_quiet_skip
    | (go_big_quiet_want
       apply quiet_of
       · intro x hx
         first
           | (go_simp; rfl)
           | (have q := hx.2
              simp only [List.forall_mem_cons] at q
              obtain ⟨⟨-, o0, -⟩, ⟨-, o1, -⟩, ⟨-, x0, -⟩, ⟨-, x1, -⟩, ⟨-, x2, -⟩, ⟨-, k0, -⟩, ⟨-, k1, -⟩, ⟨-, k2, -⟩, -⟩ := q
              first
                | (go_simp; rfl)
                | (go_simp; go_at_call 11; refine (H5.out _).mono ?_; rintro e w7 ⟨rfl, b7⟩; exact ⟨rfl, Held.step b7 hx⟩))
       simp only [Act.put, List.setIfInBounds_toArray, List.set_cons_zero, List.set_cons_succ]
       go_big_quiet_on))
  refine wpQuiet_nil ?_
  intro x hx
  go_wp2
  go_ret
  exact ⟨by simp, hx.below⟩

theorem walk (t i r : ByteArray) (w : World) (ht : t.size ≤ 1048576) (hi : i.size ≤ 1048576) (hr : r.size ≤ 1048576) :
    Calls Try.prog 3 #[.agg #[.string t, .string i, .string r]] w fun e w' => e = .returned (.bool true) ∧ Below w.heap.size w w' := by
  by_cases h0 : kind t.data.toList i.data.toList r.data.toList = 0
  · exact walk_none t i r w ht hi hr h0
  · by_cases h1 : kind t.data.toList i.data.toList r.data.toList = 1
    · exact walk_one t i r w ht hi hr h1
    · exact walk_other t i r w ht hi hr h0 h1
end LawTexts
end Go.Proofs.Ytogkfakoiapnlaa
