/-
  Layer 3 (bond), fifth part: texts of tuples, on both sides.
-/
import Derived.Test.YtbgbkhjcfchamaaBondA
import Derived.Test.YtbgbkhjcfchamaaClass
namespace Go.Proofs.Ytbgbkhjcfchamaa
open Go.RowKit
namespace Bond
open Who (bs bs_list bs_size bs_self eq_of_list Held textV text text_any textR_any ret_string wp_region_class quiet_of)

/-- A tuple's text. -/
def btV (t i r a b c : ByteArray) : ByteArray := bs (btext (t.data.toList, i.data.toList, r.data.toList) (a.data.toList, b.data.toList, c.data.toList))
theorem btV_prog (t i r a b c : ByteArray) : textV t i ⟨#[]⟩ ++ ⟨#[35]⟩ ++ r ++ ⟨#[64]⟩ ++ textV a b c = btV t i r a b c := by
  apply eq_of_list
  simp [ByteArray.data_append, textV, bs, text, btV, btext, text3]
theorem btV_doc (t i r a b c : ByteArray) : t ++ ⟨#[58]⟩ ++ i ++ ⟨#[35]⟩ ++ r ++ ⟨#[64]⟩ ++ textV a b c = btV t i r a b c := by
  apply eq_of_list
  simp [ByteArray.data_append, textV, bs, text, btV, btext, text3]
theorem textV_size (t i r : ByteArray) : (textV t i r).size ≤ t.size + i.size + r.size + 2 := by
  rw [textV, bs_size, text, List.length_append, List.length_cons, List.length_append, ← Lib.size_eq, ← Lib.size_eq]
  split
  · simp; omega
  · rw [List.length_cons, ← Lib.size_eq]; omega
theorem size35 : (ByteArray.mk #[35]).size = 1 := rfl
theorem size58 : (ByteArray.mk #[58]).size = 1 := rfl
theorem size64 : (ByteArray.mk #[64]).size = 1 := rfl

set_option maxHeartbeats 4000000 in
theorem btext_any (t i r a b c : ByteArray) (w : World) (ht : t.size ≤ 4000000) (hi : i.size ≤ 4000000) (hr : r.size ≤ 4000000) (ha : a.size ≤ 4000000) (hb : b.size ≤ 4000000) (hc : c.size ≤ 4000000) :
    Calls Try.prog 8 #[tupV t i r a b c] w fun e w' => e = .returned (.string (btV t i r a b c)) ∧ Below w.heap.size w w' := by
  have h1 := fun w => text_any t i ⟨#[]⟩ w ht hi (by decide)
  have h2 := fun w => text_any a b c w ha hb hc
  have HV := Lib.hid (btV_prog t i r a b c)
  have z1 := textV_size t i ⟨#[]⟩
  have z2 := textV_size a b c
  rw [show (ByteArray.mk #[]).size = 0 from rfl] at z1
  generalize textV t i ⟨#[]⟩ = v1 at *
  generalize textV a b c = v2 at *
  have a1 : ∀ W, (Op.stringOp .add v1 ⟨#[35]⟩).run Try.prog W = .ok (.string (v1 ++ ⟨#[35]⟩)) W := fun W => run_string_add_sum _ _ _ (by rw [size35]; omega)
  have a2 : ∀ W, (Op.stringOp .add (v1 ++ ⟨#[35]⟩) r).run Try.prog W = .ok (.string (v1 ++ ⟨#[35]⟩ ++ r)) W := fun W => run_string_add_sum _ _ _ (by rw [ByteArray.size_append, size35]; omega)
  have a3 : ∀ W, (Op.stringOp .add (v1 ++ ⟨#[35]⟩ ++ r) ⟨#[64]⟩).run Try.prog W = .ok (.string (v1 ++ ⟨#[35]⟩ ++ r ++ ⟨#[64]⟩)) W := fun W => run_string_add_sum _ _ _ (by rw [ByteArray.size_append, ByteArray.size_append, size35, size64]; omega)
  have a4 : ∀ W, (Op.stringOp .add (v1 ++ ⟨#[35]⟩ ++ r ++ ⟨#[64]⟩) v2).run Try.prog W = .ok (.string (v1 ++ ⟨#[35]⟩ ++ r ++ ⟨#[64]⟩ ++ v2)) W := fun W => run_string_add_sum _ _ _ (by rw [ByteArray.size_append, ByteArray.size_append, ByteArray.size_append, size35, size64]; omega)
  have H1 := Lib.hid h1
  have H2 := Lib.hid h2
  have HH := Lib.hid (Held.one6 w 25 (.string t) (.string i) (.string r) (.string a) (.string b) (.string c))
  clear h1 h2 z1 z2
  unfold tupV
  go_enter Try.func8, Try.ntmps8
  go_wp2_with fail
  refine wp_region_class (C := fun x => Held w [(⟨w.heap.size, 0, none⟩, .string t), (⟨w.heap.size, 1, none⟩, .string i), (⟨w.heap.size, 2, none⟩, .string r), (⟨w.heap.size, 3, none⟩, .string a), (⟨w.heap.size, 4, none⟩, .string b), (⟨w.heap.size, 5, none⟩, .string c)] x) (by kernel_rfl) (by kernel_rfl) HH.out.drew ?_
  repeat (first
    | go_big_quiet_skip
    | (go_big_quiet_want
       apply quiet_of
       · intro x hx
         first
           | (go_simp; rfl)
           | (have q := hx.2
              simp only [List.forall_mem_cons] at q
              obtain ⟨⟨-, k0, -⟩, ⟨-, k1, -⟩, ⟨-, k2, -⟩, ⟨-, k3, -⟩, ⟨-, k4, -⟩, ⟨-, k5, -⟩, -⟩ := q
              first
                | (go_simp; rfl)
                | (go_simp; go_at_call 18; (with_reducible refine (H1.out _).mono ?_); rintro e w7 ⟨rfl, b7⟩; exact ⟨rfl, Held.step b7 hx⟩)
                | (go_simp; go_at_call 18; (with_reducible refine (H2.out _).mono ?_); rintro e w7 ⟨rfl, b7⟩; exact ⟨rfl, Held.step b7 hx⟩))
       simp only [Act.put, List.setIfInBounds_toArray, List.set_cons_zero, List.set_cons_succ]
       go_big_quiet_on))
  refine wpQuiet_nil ?_
  intro x hx
  go_wp2
  go_ret
  exact ⟨ret_string HV.out, hx.below⟩

set_option maxHeartbeats 4000000 in
theorem btextR_any (t i r a b c : ByteArray) (w : World) (ht : t.size ≤ 4000000) (hi : i.size ≤ 4000000) (hr : r.size ≤ 4000000) (ha : a.size ≤ 4000000) (hb : b.size ≤ 4000000) (hc : c.size ≤ 4000000) :
    Calls Try.prog 10 #[tupV t i r a b c] w fun e w' => e = .returned (.string (btV t i r a b c)) ∧ Below w.heap.size w w' := by
  have h2 := fun w => textR_any a b c w ha hb hc
  have HV := Lib.hid (btV_doc t i r a b c)
  have z2 := textV_size a b c
  generalize textV a b c = v2 at *
  have a0 : ∀ W, (Op.stringOp .add t ⟨#[58]⟩).run Try.prog W = .ok (.string (t ++ ⟨#[58]⟩)) W := fun W => run_string_add_sum _ _ _ (by rw [size58]; omega)
  have a1 : ∀ W, (Op.stringOp .add (t ++ ⟨#[58]⟩) i).run Try.prog W = .ok (.string (t ++ ⟨#[58]⟩ ++ i)) W := fun W => run_string_add_sum _ _ _ (by rw [ByteArray.size_append, size58]; omega)
  have a2 : ∀ W, (Op.stringOp .add (t ++ ⟨#[58]⟩ ++ i) ⟨#[35]⟩).run Try.prog W = .ok (.string (t ++ ⟨#[58]⟩ ++ i ++ ⟨#[35]⟩)) W := fun W => run_string_add_sum _ _ _ (by rw [ByteArray.size_append, ByteArray.size_append, size58, size35]; omega)
  have a3 : ∀ W, (Op.stringOp .add (t ++ ⟨#[58]⟩ ++ i ++ ⟨#[35]⟩) r).run Try.prog W = .ok (.string (t ++ ⟨#[58]⟩ ++ i ++ ⟨#[35]⟩ ++ r)) W := fun W => run_string_add_sum _ _ _ (by rw [ByteArray.size_append, ByteArray.size_append, ByteArray.size_append, size58, size35]; omega)
  have a4 : ∀ W, (Op.stringOp .add (t ++ ⟨#[58]⟩ ++ i ++ ⟨#[35]⟩ ++ r) ⟨#[64]⟩).run Try.prog W = .ok (.string (t ++ ⟨#[58]⟩ ++ i ++ ⟨#[35]⟩ ++ r ++ ⟨#[64]⟩)) W := fun W => run_string_add_sum _ _ _ (by rw [ByteArray.size_append, ByteArray.size_append, ByteArray.size_append, ByteArray.size_append, size58, size35, size64]; omega)
  have a5 : ∀ W, (Op.stringOp .add (t ++ ⟨#[58]⟩ ++ i ++ ⟨#[35]⟩ ++ r ++ ⟨#[64]⟩) v2).run Try.prog W = .ok (.string (t ++ ⟨#[58]⟩ ++ i ++ ⟨#[35]⟩ ++ r ++ ⟨#[64]⟩ ++ v2)) W := fun W => run_string_add_sum _ _ _ (by rw [ByteArray.size_append, ByteArray.size_append, ByteArray.size_append, ByteArray.size_append, ByteArray.size_append, size58, size35, size64]; omega)
  have H2 := Lib.hid h2
  have HH := Lib.hid (Held.one6 w 25 (.string t) (.string i) (.string r) (.string a) (.string b) (.string c))
  clear h2 z2
  unfold tupV
  go_enter Try.func10, Try.ntmps10
  go_wp2_with fail
  refine wp_region_class (C := fun x => Held w [(⟨w.heap.size, 0, none⟩, .string t), (⟨w.heap.size, 1, none⟩, .string i), (⟨w.heap.size, 2, none⟩, .string r), (⟨w.heap.size, 3, none⟩, .string a), (⟨w.heap.size, 4, none⟩, .string b), (⟨w.heap.size, 5, none⟩, .string c)] x) (by kernel_rfl) (by kernel_rfl) HH.out.drew ?_
  repeat (first
    | go_big_quiet_skip
    | (go_big_quiet_want
       apply quiet_of
       · intro x hx
         first
           | (go_simp; rfl)
           | (have q := hx.2
              simp only [List.forall_mem_cons] at q
              obtain ⟨⟨-, k0, -⟩, ⟨-, k1, -⟩, ⟨-, k2, -⟩, ⟨-, k3, -⟩, ⟨-, k4, -⟩, ⟨-, k5, -⟩, -⟩ := q
              first
                | (go_simp; rfl)
                | (go_simp; go_at_call 24; (with_reducible refine (H2.out _).mono ?_); rintro e w7 ⟨rfl, b7⟩; exact ⟨rfl, Held.step b7 hx⟩))
       simp only [Act.put, List.setIfInBounds_toArray, List.set_cons_zero, List.set_cons_succ]
       go_big_quiet_on))
  refine wpQuiet_nil ?_
  intro x hx
  go_wp2
  go_ret
  exact ⟨ret_string HV.out, hx.below⟩
end Bond
end Go.Proofs.Ytbgbkhjcfchamaa
