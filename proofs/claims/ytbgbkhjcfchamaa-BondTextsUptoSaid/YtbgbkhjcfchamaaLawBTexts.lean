/-
  The statement BondTexts at every tuple of bounded size.
-/
import Derived.Test.YtbgbkhjcfchamaaBondG
import Derived.Test.YtbgbkhjcfchamaaBondH
import Derived.Laws.StructEq
namespace Go.Proofs.Ytbgbkhjcfchamaa
open Go.RowKit
namespace LawBTexts
open Bond
open Who (bs bs_list bs_size bs_self Held)

theorem btV_list (t i r a b c : ByteArray) : (btV t i r a b c).data.toList = btext (t.data.toList, i.data.toList, r.data.toList) (a.data.toList, b.data.toList, c.data.toList) := by rw [btV, bs_list]
theorem btV_size (t i r a b c : ByteArray) : (btV t i r a b c).size ≤ t.size + i.size + r.size + a.size + b.size + c.size + 5 := by
  rw [← btV_prog]
  have z1 := textV_size t i ⟨#[]⟩
  have z2 := textV_size a b c
  rw [show (ByteArray.mk #[]).size = 0 from rfl] at z1
  rw [ByteArray.size_append, ByteArray.size_append, ByteArray.size_append, ByteArray.size_append, size35, size64]
  have z3 : (Who.textV t i ⟨#[]⟩).size ≤ t.size + i.size + 1 := by
    rw [Who.textV, bs_size, Who.text, List.length_append, List.length_cons, List.length_append, ← Lib.size_eq, ← Lib.size_eq]
    simp; omega
  omega

theorem good_len {x y : L3} (h : goodB x y = true) : x.1.length ≤ 16 ∧ x.2.1.length ≤ 96 ∧ x.2.2.length ≤ 16 ∧ y.1.length ≤ 16 ∧ y.2.1.length ≤ 96 ∧ y.2.2.length ≤ 16 := by
  obtain ⟨h1, h2⟩ := good_iff.1 h
  have a := Who.kind_len (t := x.1) (i := x.2.1) (r := x.2.2) (by rw [show Who.kind x.1 x.2.1 x.2.2 = 2 from h1]; decide)
  have b := Who.kind_len (t := y.1) (i := y.2.1) (r := y.2.2) h2
  exact ⟨a.1, a.2.1, a.2.2, b.1, b.2.1, b.2.2⟩

set_option maxHeartbeats 4000000 in
theorem walk (t i r a b c : ByteArray) (w : World) (ht : t.size ≤ 1048576) (hi : i.size ≤ 1048576) (hr : r.size ≤ 1048576) (ha : a.size ≤ 1048576) (hb : b.size ≤ 1048576) (hc : c.size ≤ 1048576) :
    Calls Try.prog 3 #[.agg #[.string t, .string i, .string r, .string a, .string b, .string c]] w fun e w' => e = .returned (.bool true) ∧ Below w.heap.size w w' := by
  have HA := Lib.hid (fun w => awake_any w)
  have h1 := fun w => goodR_any t i r a b c w (by omega) (by omega) (by omega) (by omega) (by omega) (by omega)
  unfold tupV at h1
  cases hg : goodB (t.data.toList, i.data.toList, r.data.toList) (a.data.toList, b.data.toList, c.data.toList) with
  | false =>
    rw [hg] at h1
    have H1 := Lib.hid h1
    clear h1 hg
    go_enter Try.func3, Try.ntmps3
    go_wp2_with fail
    refine (HA.out _).mono ?_
    rintro e w1 ⟨rfl, b1⟩
    have I1 := Held.step b1 (Held.one6 w _ _ _ _ _ _ _)
    have q := I1.all
    simp only [List.forall_mem_cons] at q
    obtain ⟨⟨-, k0, -⟩, ⟨-, k1, -⟩, ⟨-, k2, -⟩, ⟨-, k3, -⟩, ⟨-, k4, -⟩, ⟨-, k5, -⟩, -⟩ := q
    clear b1
    go_wp2_with fail
    (with_reducible refine (H1.out _).mono ?_)
    rintro e w2 ⟨rfl, b2⟩
    have I2 := Held.step b2 I1
    clear b2
    go_wp2_with fail
    refine (HA.out _).mono ?_
    rintro e w3 ⟨rfl, b3⟩
    have I3 := Held.step b3 I2
    clear b3
    go_wp2
    go_ret
    exact ⟨rfl, I3.below⟩
  | true =>
    rw [hg] at h1
    have hpr := (pr_text hg)
    rw [← btV_list] at hpr
    have hsz := btV_size t i r a b c
    obtain ⟨l0, l1, l2, l3, l4, l5⟩ := good_len hg
    simp only [← Lib.size_eq] at l0 l1 l2 l3 l4 l5
    have h2 := fun w => btext_any t i r a b c w (by omega) (by omega) (by omega) (by omega) (by omega) (by omega)
    have h3 := fun w => bread_any (btV t i r a b c) w (by omega)
    have h4 := fun w => btextR_any t i r a b c w (by omega) (by omega) (by omega) (by omega) (by omega) (by omega)
    rw [hpr] at h3
    unfold prV tupV at h3
    unfold tupV at h2 h4
    simp only [bs_self] at h3
    generalize btV t i r a b c = v at *
    have H1 := Lib.hid h1
    have H2 := Lib.hid h2
    have H3 := Lib.hid h3
    have H4 := Lib.hid h4
    clear h1 h2 h3 h4 hg hpr hsz l0 l1 l2 l3 l4 l5
    go_enter Try.func3, Try.ntmps3
    go_wp2_with fail
    refine (HA.out _).mono ?_
    rintro e w1 ⟨rfl, b1⟩
    have I1 := Held.step b1 (Held.one6 w _ _ _ _ _ _ _)
    have q := I1.all
    simp only [List.forall_mem_cons] at q
    obtain ⟨⟨-, k0, -⟩, ⟨-, k1, -⟩, ⟨-, k2, -⟩, ⟨-, k3, -⟩, ⟨-, k4, -⟩, ⟨-, k5, -⟩, -⟩ := q
    clear b1
    go_wp2_with fail
    (with_reducible refine (H1.out _).mono ?_)
    rintro e w2 ⟨rfl, b2⟩
    have I2 := Held.step b2 I1
    have q := I2.all
    simp only [List.forall_mem_cons] at q
    clear b2 k0 k1 k2 k3 k4 k5
    obtain ⟨⟨-, k0, -⟩, ⟨-, k1, -⟩, ⟨-, k2, -⟩, ⟨-, k3, -⟩, ⟨-, k4, -⟩, ⟨-, k5, -⟩, -⟩ := q
    go_wp2_with fail
    (with_reducible refine (H2.out _).mono ?_)
    rintro e w3 ⟨rfl, b3⟩
    have I3 := Held.step b3 I2
    clear b3 k0 k1 k2 k3 k4 k5
    go_wp2_with fail
    (with_reducible refine (H3.out _).mono ?_)
    rintro e w4 ⟨rfl, b4⟩
    have I4 := Held.more6 (Held.step b4 I3) 25 (.string t) (.string i) (.string r) (.string a) (.string b) (.string c)
    have q := I4.all
    simp only [List.forall_mem_cons] at q
    clear b4
    obtain ⟨-, -, -, -, -, -, ⟨-, k0, -⟩, ⟨-, k1, -⟩, ⟨-, k2, -⟩, ⟨-, k3, -⟩, ⟨-, k4, -⟩, ⟨-, k5, -⟩, -⟩ := q
    go_wp2_with fail
    (with_reducible refine (H4.out _).mono ?_)
    rintro e w5 ⟨rfl, b5⟩
    have I5 := Held.step b5 I4
    have q := I5.all
    simp only [List.forall_mem_cons] at q
    clear b5 k0 k1 k2 k3 k4 k5
    obtain ⟨⟨-, o0, -⟩, ⟨-, o1, -⟩, ⟨-, o2, -⟩, ⟨-, o3, -⟩, ⟨-, o4, -⟩, ⟨-, o5, -⟩, ⟨-, k0, -⟩, ⟨-, k1, -⟩, ⟨-, k2, -⟩, ⟨-, k3, -⟩, ⟨-, k4, -⟩, ⟨-, k5, -⟩, -⟩ := q
    go_wp2
    go_ret
    exact ⟨by simp, I5.below⟩
end LawBTexts
end Go.Proofs.Ytbgbkhjcfchamaa
