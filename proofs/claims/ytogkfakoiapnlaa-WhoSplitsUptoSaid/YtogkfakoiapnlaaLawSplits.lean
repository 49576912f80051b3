/-
  The statement WhoSplits at every object and relation of bounded size.
-/
import Derived.Test.YtogkfakoiapnlaaWhoF
import Derived.Test.YtogkfakoiapnlaaClass
import Derived.Laws.StructEq
namespace Go.Proofs.Ytogkfakoiapnlaa
open Go.RowKit
namespace LawSplits
open Who

/-- Text(one) + "#" + relation. -/
theorem textV_set (t i r : ByteArray) (h : r.data.toList ≠ []) : textV t i ⟨#[]⟩ ++ ⟨#[35]⟩ ++ r = textV t i r := by
  apply eq_of_list
  rw [show (textV t i r).data.toList = text t.data.toList i.data.toList r.data.toList by rw [textV, bs_list], text, if_neg h]
  simp [ByteArray.data_append, textV, bs, text]

theorem walk_none (t i r : ByteArray) (w : World) (ht : t.size ≤ 1048576) (hi : i.size ≤ 1048576) (hk : (Gly.nameB t.data.toList && Gly.idB i.data.toList) = false) :
    Calls Try.prog 5 #[.agg #[.string t, .string i], .string r] w fun e w' => e = .returned (.bool true) ∧ Below w.heap.size w w' := by
  have HA := Lib.hid (fun w => awake_any w)
  have h1 := fun w => goodR_any t i w (by omega) (by omega)
  rw [hk] at h1
  have H1 := Lib.hid h1
  clear h1 hk
  go_enter Try.func5, Try.ntmps5
  go_wp2_with fail
  refine (HA.out _).mono ?_
  rintro e w1 ⟨rfl, b1⟩
  have I1 := Held.step b1 (Held.one2 w _ _ _)
  have q := I1.all
  simp only [List.forall_mem_cons] at q
  obtain ⟨⟨-, k0, -⟩, ⟨-, k1, -⟩, -⟩ := q
  clear b1
  go_wp2_with fail
  refine (H1.out _).mono ?_
  rintro e w2 ⟨rfl, b2⟩
  have I2 := Held.step b2 I1
  clear b2
  go_wp2_with fail
  refine (HA.out _).mono ?_
  rintro e w3 ⟨rfl, b3⟩
  have I3 := Held.step b3 I2
  clear b3
  go_wp2
  go_ret
  exact ⟨rfl, I3.below⟩

theorem walk_long (t i r : ByteArray) (w : World) (ht : t.size ≤ 1048576) (hi : i.size ≤ 1048576) (hr : r.size ≤ 1048576) (hl : 100 < r.size) (hk : (Gly.nameB t.data.toList && Gly.idB i.data.toList) = true) :
    Calls Try.prog 5 #[.agg #[.string t, .string i], .string r] w fun e w' => e = .returned (.bool true) ∧ Below w.heap.size w w' := by
  have HA := Lib.hid (fun w => awake_any w)
  have h1 := fun w => goodR_any t i w (by omega) (by omega)
  rw [hk] at h1
  have H1 := Lib.hid h1
  clear h1 hk
  go_enter Try.func5, Try.ntmps5
  go_wp2_with fail
  refine (HA.out _).mono ?_
  rintro e w1 ⟨rfl, b1⟩
  have I1 := Held.step b1 (Held.one2 w _ _ _)
  have q := I1.all
  simp only [List.forall_mem_cons] at q
  obtain ⟨⟨-, k0, -⟩, ⟨-, k1, -⟩, -⟩ := q
  clear b1
  go_wp2_with fail
  refine (H1.out _).mono ?_
  rintro e w2 ⟨rfl, b2⟩
  have I2 := Held.step b2 I1
  clear b2
  go_wp2_with fail
  refine (HA.out _).mono ?_
  rintro e w3 ⟨rfl, b3⟩
  have I3 := Held.step b3 I2
  clear b3
  go_wp2
  go_ret
  exact ⟨rfl, I3.below⟩

set_option maxHeartbeats 4000000 in
theorem walk_good (t i r : ByteArray) (w : World) (hl : r.size ≤ 100) (hk : (Gly.nameB t.data.toList && Gly.idB i.data.toList) = true) :
    Calls Try.prog 5 #[.agg #[.string t, .string i], .string r] w fun e w' => e = .returned (.bool true) ∧ Below w.heap.size w w' := by
  have HA := Lib.hid (fun w => awake_any w)
  obtain ⟨hn, hi⟩ := Bool.and_eq_true _ _ ▸ hk
  have hln := nameB_len hn
  have hli := idB_len hi
  rw [← Lib.size_eq] at hln hli
  have h1 := fun w => goodR_any t i w (by omega) (by omega)
  rw [hk] at h1
  have hk1 : kind t.data.toList i.data.toList [] = 1 := by
    have h := one_eq t.data.toList i.data.toList []
    rw [oneB, hn, hi] at h
    simpa using h.symm
  have htr := text_read (t := t.data.toList) (i := i.data.toList) (r := []) (by omega)
  have hvs : (textV t i ⟨#[]⟩).size ≤ 4000000 := by
    rw [textV, bs_size, text, List.length_append, List.length_cons, List.length_append, ← Lib.size_eq, ← Lib.size_eq]
    simp; omega
  have h4 := fun w => readO_any (textV t i ⟨#[]⟩) w hvs
  have hro : readO (textV t i ⟨#[]⟩).data.toList = some (t.data.toList, i.data.toList) := by
    rw [textV, bs_list, readO, show (ByteArray.mk #[]).data.toList = [] from rfl, htr]
    exact if_pos hk1
  rw [hro] at h4
  unfold readOV at h4
  simp only [bs_self] at h4
  have h6 := fun w => set_any t i r w (by omega) (by omega) (by omega)
  have hset : setB t.data.toList i.data.toList r.data.toList = Gly.nameB r.data.toList := by simp [setB, hn, hi]
  rw [hset] at h6
  have H1 := Lib.hid h1
  have H2 := Lib.hid (fun w => of_any t i ⟨#[]⟩ w (by omega) (by omega) (by decide))
  have H3 := Lib.hid (fun w => of_any t i r w (by omega) (by omega) (by omega))
  have H4 := Lib.hid h4
  have H5 := Lib.hid (fun w => text_any t i ⟨#[]⟩ w (by omega) (by omega) (by decide))
  have H7 := Lib.hid (fun w => object_any t i r w (by omega) (by omega))
  have H8 := Lib.hid (fun w => text_any t i r w (by omega) (by omega) (by omega))
  have htv : Gly.nameB r.data.toList = true → textV t i ⟨#[]⟩ ++ ⟨#[35]⟩ ++ r = textV t i r := fun h => textV_set t i r (fun e => by rw [e, name_nil] at h; cases h)
  have hvr : (textV t i r).size ≤ 1000 := by
    rw [textV, bs_size, text, List.length_append, List.length_cons, List.length_append, ← Lib.size_eq, ← Lib.size_eq]
    split
    · simp; omega
    · rw [List.length_cons, ← Lib.size_eq]; omega
  have hvo : (textV t i ⟨#[]⟩).size ≤ 1000 := by
    rw [textV, bs_size, text, List.length_append, List.length_cons, List.length_append, ← Lib.size_eq, ← Lib.size_eq]
    simp; omega
  generalize textV t i ⟨#[]⟩ = v at *
  generalize textV t i r = u at *
  clear h1 h4 hk1 htr hvs hro hset hk hn hi hln hli
  generalize hb : Gly.nameB r.data.toList = b at *
  have HT := Lib.hid htv
  have H6 := Lib.hid h6
  clear h6 htv hb
  go_enter Try.func5, Try.ntmps5
  go_wp2_with fail
  refine (HA.out _).mono ?_
  rintro e w1 ⟨rfl, b1⟩
  have I1 := Held.step b1 (Held.one2 w _ _ _)
  have q := I1.all
  simp only [List.forall_mem_cons] at q
  obtain ⟨⟨-, k0, -⟩, ⟨-, k1, -⟩, -⟩ := q
  clear b1
  go_wp2_with fail
  refine (H1.out _).mono ?_
  rintro e w2 ⟨rfl, b2⟩
  have I2 := Held.step b2 I1
  have q := I2.all
  simp only [List.forall_mem_cons] at q
  clear b2 k0 k1
  obtain ⟨⟨-, k0, -⟩, ⟨-, k1, -⟩, -⟩ := q
  go_wp2_with fail
  refine (H2.out _).mono ?_
  rintro e w3 ⟨rfl, b3⟩
  have I3 := (Held.step b3 I2).more3 23 (.string t) (.string i) (.string ⟨#[]⟩)
  have q := I3.all
  simp only [List.forall_mem_cons] at q
  clear b3 k0 k1
  obtain ⟨-, -, -, ⟨-, k0, -⟩, ⟨-, k1, -⟩, -⟩ := q
  go_wp2_with fail
  refine (H3.out _).mono ?_
  rintro e w4 ⟨rfl, b4⟩
  have I4 := (Held.step b4 I3).more3 23 (.string t) (.string i) (.string r)
  have q := I4.all
  simp only [List.forall_mem_cons] at q
  clear b4 k0 k1
  obtain ⟨-, -, -, ⟨-, m0, -⟩, ⟨-, m1, -⟩, ⟨-, m2, -⟩, ⟨-, k0, -⟩, ⟨-, k1, -⟩, -⟩ := q
  go_wp2_with fail
  refine (H5.out _).mono ?_
  rintro e w5 ⟨rfl, b5⟩
  have I5 := Held.step b5 I4
  clear b5 k0 k1 m0 m1 m2
  go_wp2_with fail
  refine (H4.out _).mono ?_
  rintro e w6 ⟨rfl, b6⟩
  have I6 := (Held.step b6 I5).more2 31 (.string t) (.string i)
  clear b6
  go_wp2_with fail
  generalize w3.heap.size = B3 at *
  generalize w4.heap.size = B4 at *
  generalize w6.heap.size = B6 at *
  clear I1 I2 I3 I4 I5
  refine wp_region_class (C := fun x => Held w [(⟨B6, 0, none⟩, .string t), (⟨B6, 1, none⟩, .string i), (⟨B4, 0, none⟩, .string t), (⟨B4, 1, none⟩, .string i), (⟨B4, 2, none⟩, .string r), (⟨B3, 0, none⟩, .string t), (⟨B3, 1, none⟩, .string i), (⟨B3, 2, none⟩, .string ⟨#[]⟩), (⟨w.heap.size, 0, none⟩, .string t), (⟨w.heap.size, 1, none⟩, .string i)] x) (by kernel_rfl) (by kernel_rfl) I6.drew ?_
  repeat (first
    | go_big_quiet_skip
    | (go_big_quiet_want
       apply quiet_of
       · intro x hx
         first
           | (go_simp; rfl)
           | (have q := hx.2
              simp only [List.forall_mem_cons] at q
              obtain ⟨⟨-, x0, -⟩, ⟨-, x1, -⟩, ⟨-, m0, -⟩, ⟨-, m1, -⟩, ⟨-, m2, -⟩, ⟨-, o0, -⟩, ⟨-, o1, -⟩, ⟨-, o2, -⟩, ⟨-, k0, -⟩, ⟨-, k1, -⟩, -⟩ := q
              first
                | (go_simp; rfl)
                | (go_simp; go_at_call 12; (with_reducible refine (H7.out _).mono ?_); rintro e w7 ⟨rfl, b7⟩; exact ⟨rfl, Held.step b7 hx⟩))
       simp only [Act.put, List.setIfInBounds_toArray, List.set_cons_zero, List.set_cons_succ]
       go_big_quiet_on))
  refine wpQuiet_nil ?_
  intro x hx
  clear I6
  go_wp2_with fail
  cases b with
  | false =>
    refine wp_region_class (C := fun x => Held w [(⟨B6, 0, none⟩, .string t), (⟨B6, 1, none⟩, .string i), (⟨B4, 0, none⟩, .string t), (⟨B4, 1, none⟩, .string i), (⟨B4, 2, none⟩, .string r), (⟨B3, 0, none⟩, .string t), (⟨B3, 1, none⟩, .string i), (⟨B3, 2, none⟩, .string ⟨#[]⟩), (⟨w.heap.size, 0, none⟩, .string t), (⟨w.heap.size, 1, none⟩, .string i)] x) (by kernel_rfl) (by kernel_rfl) hx.drew ?_
    repeat (first
      | go_big_quiet_skip
      | (go_big_quiet_want
         apply quiet_of
         · intro x hx
           first
             | (go_simp; rfl)
             | (have q := hx.2
                simp only [List.forall_mem_cons] at q
                obtain ⟨⟨-, x0, -⟩, ⟨-, x1, -⟩, ⟨-, m0, -⟩, ⟨-, m1, -⟩, ⟨-, m2, -⟩, ⟨-, o0, -⟩, ⟨-, o1, -⟩, ⟨-, o2, -⟩, ⟨-, k0, -⟩, ⟨-, k1, -⟩, -⟩ := q
                first
                  | (go_simp; rfl)
                  | (go_simp; go_at_call 16; (with_reducible refine (H6.out _).mono ?_); rintro e w7 ⟨rfl, b7⟩; exact ⟨rfl, Held.step b7 hx⟩))
         simp only [Act.put, List.setIfInBounds_toArray, List.set_cons_zero, List.set_cons_succ]
         go_big_quiet_on))
    refine wpQuiet_nil ?_
    intro y hy
    go_wp2
    go_ret
    exact ⟨by simp, hy.below⟩
  | true =>
    have hvu := HT.out rfl
    subst hvu
    have a1 : ∀ W, (Op.stringOp .add v ⟨#[35]⟩).run Try.prog W = .ok (.string (v ++ ⟨#[35]⟩)) W := fun W => run_string_add_sum _ _ _ (by rw [show (ByteArray.mk #[35]).size = 1 from rfl]; omega)
    have a2 : ∀ W, (Op.stringOp .add (v ++ ⟨#[35]⟩) r).run Try.prog W = .ok (.string (v ++ ⟨#[35]⟩ ++ r)) W := fun W => run_string_add_sum _ _ _ (by rw [ByteArray.size_append, show (ByteArray.mk #[35]).size = 1 from rfl]; omega)
    clear HT
    refine wp_region_class (C := fun x => Held w [(⟨B6, 0, none⟩, .string t), (⟨B6, 1, none⟩, .string i), (⟨B4, 0, none⟩, .string t), (⟨B4, 1, none⟩, .string i), (⟨B4, 2, none⟩, .string r), (⟨B3, 0, none⟩, .string t), (⟨B3, 1, none⟩, .string i), (⟨B3, 2, none⟩, .string ⟨#[]⟩), (⟨w.heap.size, 0, none⟩, .string t), (⟨w.heap.size, 1, none⟩, .string i)] x) (by kernel_rfl) (by kernel_rfl) hx.drew ?_
    repeat (first
      | go_big_quiet_skip
      | (go_big_quiet_want
         apply quiet_of
         · intro x hx
           first
             | (go_simp; rfl)
             | (have q := hx.2
                simp only [List.forall_mem_cons] at q
                obtain ⟨⟨-, x0, -⟩, ⟨-, x1, -⟩, ⟨-, m0, -⟩, ⟨-, m1, -⟩, ⟨-, m2, -⟩, ⟨-, o0, -⟩, ⟨-, o1, -⟩, ⟨-, o2, -⟩, ⟨-, k0, -⟩, ⟨-, k1, -⟩, -⟩ := q
                first
                  | (go_simp; rfl)
                  | (go_simp; go_at_call 16; (with_reducible refine (H6.out _).mono ?_); rintro e w7 ⟨rfl, b7⟩; exact ⟨rfl, Held.step b7 hx⟩)
                  | (go_simp; go_at_call 8; (with_reducible refine (H8.out _).mono ?_); rintro e w7 ⟨rfl, b7⟩; exact ⟨rfl, Held.step b7 hx⟩)
                  | (go_simp; go_at_call 8; (with_reducible refine (H5.out _).mono ?_); rintro e w7 ⟨rfl, b7⟩; exact ⟨rfl, Held.step b7 hx⟩))
         simp only [Act.put, List.setIfInBounds_toArray, List.set_cons_zero, List.set_cons_succ]
         go_big_quiet_on))
    refine wpQuiet_nil ?_
    intro y hy
    go_wp2
    go_ret
    exact ⟨by simp, hy.below⟩

theorem walk (t i r : ByteArray) (w : World) (ht : t.size ≤ 1048576) (hi : i.size ≤ 1048576) (hr : r.size ≤ 1048576) :
    Calls Try.prog 5 #[.agg #[.string t, .string i], .string r] w fun e w' => e = .returned (.bool true) ∧ Below w.heap.size w w' := by
  cases hk : Gly.nameB t.data.toList && Gly.idB i.data.toList with
  | false => exact walk_none t i r w ht hi hk
  | true =>
    by_cases hl : r.size ≤ 100
    · exact walk_good t i r w hl hk
    · exact walk_long t i r w ht hi hr (by omega) hk
end LawSplits
end Go.Proofs.Ytogkfakoiapnlaa
