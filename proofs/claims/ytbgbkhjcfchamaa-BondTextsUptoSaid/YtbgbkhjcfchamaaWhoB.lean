/-
  Layer 2 (who), second part: texts of subjects, on both sides; Of.
-/
import Derived.Test.YtbgbkhjcfchamaaWhoA
import Derived.Deep.RegionHeld3
namespace Go.Proofs.Ytbgbkhjcfchamaa
open Go.RowKit
namespace Who

theorem clone_any (s : ByteArray) (w : World) (hs : s.size ≤ 4000000) :
    Calls Try.prog 23 #[.string s] w fun e w' => e = .returned (.string s) ∧ Below w.heap.size w w' := by
  go_enter Try.func23, Try.ntmps23
  go_wp2_with (go_at_call 38; refine (Try.stringslite_Clone s _ (by omega)).mono ?_; rintro e w1 ⟨rfl, b1⟩)
  go_ret
  exact ⟨rfl, b1⟩

/-- What Text answers. -/
def textV (t i r : ByteArray) : ByteArray := bs (text t.data.toList i.data.toList r.data.toList)
theorem textV_none (t i r : ByteArray) (h : r.data.toList = []) : t ++ ⟨#[58]⟩ ++ i = textV t i r := by
  apply eq_of_list
  rw [textV, bs_list, text, if_pos h]
  simp [ByteArray.data_append]
theorem textV_some (t i r : ByteArray) (h : r.data.toList ≠ []) : t ++ ⟨#[58]⟩ ++ i ++ (⟨#[35]⟩ ++ r) = textV t i r := by
  apply eq_of_list
  rw [textV, bs_list, text, if_neg h]
  simp [ByteArray.data_append]
theorem textV_some' (t i r : ByteArray) (h : r.data.toList ≠ []) : t ++ ⟨#[58]⟩ ++ i ++ ⟨#[35]⟩ ++ r = textV t i r := by
  apply eq_of_list
  rw [textV, bs_list, text, if_neg h]
  simp [ByteArray.data_append]
theorem ret_string {a b : ByteArray} (h : a = b) : Ending.returned (.string a) = .returned (.string b) := by rw [h]

set_option maxHeartbeats 1000000 in
theorem text_any (t i r : ByteArray) (w : World) (ht : t.size ≤ 4000000) (hi : i.size ≤ 4000000) (hr : r.size ≤ 4000000) :
    Calls Try.prog 18 #[.agg #[.string t, .string i, .string r]] w fun e w' => e = .returned (.string (textV t i r)) ∧ Below w.heap.size w w' := by
  by_cases he : r.data.toList = []
  · have hv := textV_none t i r he
    obtain ⟨e1, e2⟩ := emp_true he
    have HV := Lib.hid hv
    clear hv he
    go_enter Try.func18, Try.ntmps18
    go_wp2
    go_ret
    exact ⟨ret_string HV.out, boxed (Below.refl _ _)⟩
  · have hv := textV_some t i r he
    obtain ⟨e1, e2⟩ := emp_false he
    have HV := Lib.hid hv
    clear hv he
    go_enter Try.func18, Try.ntmps18
    go_wp2
    go_ret
    exact ⟨ret_string HV.out, boxed (Below.refl _ _)⟩

set_option maxHeartbeats 1000000 in
theorem textR_any (t i r : ByteArray) (w : World) (ht : t.size ≤ 4000000) (hi : i.size ≤ 4000000) (hr : r.size ≤ 4000000) :
    Calls Try.prog 24 #[.agg #[.string t, .string i, .string r]] w fun e w' => e = .returned (.string (textV t i r)) ∧ Below w.heap.size w w' := by
  by_cases he : r.data.toList = []
  · have hv := textV_none t i r he
    obtain ⟨e1, e2⟩ := emp_true he
    have HV := Lib.hid hv
    clear hv he
    go_enter Try.func24, Try.ntmps24
    go_wp2
    go_ret
    exact ⟨ret_string HV.out, boxed (Below.refl _ _)⟩
  · have hv := textV_some' t i r he
    obtain ⟨e1, e2⟩ := emp_false he
    have HV := Lib.hid hv
    clear hv he
    go_enter Try.func24, Try.ntmps24
    go_wp2
    go_ret
    exact ⟨ret_string HV.out, boxed (Below.refl _ _)⟩

/-- Cells of new blocks, with what they hold; nothing that was there has turned. -/
def Held (w : World) (L : List (Addr × Value)) (x : World) : Prop :=
  Below w.heap.size w x ∧ ∀ p ∈ L, p.1.block < x.heap.size ∧ x.cell? p.1 = some p.2 ∧ x.frozen? p.1 = false
theorem Held.below {w x : World} {L : List (Addr × Value)} (h : Held w L x) : Below w.heap.size w x := h.1
theorem Held.all {w x : World} {L : List (Addr × Value)} (h : Held w L x) : ∀ p ∈ L, p.1.block < x.heap.size ∧ x.cell? p.1 = some p.2 ∧ x.frozen? p.1 = false := h.2
theorem Held.step {w x y : World} {L : List (Addr × Value)} (hb : Below x.heap.size x y) (h : Held w L x) : Held w L y :=
  ⟨h.1.trans (hb.mono h.1.size), fun p hp => by
    obtain ⟨h1, h2, h3⟩ := h.2 p hp
    exact ⟨Nat.lt_of_lt_of_le h1 hb.size, (hb.cell h1).trans h2, (hb.frozen h1).trans h3⟩⟩
theorem Held.drew {w x : World} {L : List (Addr × Value)} (h : Held w L x) : Held w L x.drew := ⟨⟨h.1.os, h.1.tape, h.1.output, h.1.size, h.1.block⟩, h.2⟩

set_option maxHeartbeats 2000000 in
/-- What Of answers is its own memory. -/
theorem of_any (t i r : ByteArray) (w : World) (ht : t.size ≤ 4000000) (hi : i.size ≤ 4000000) (hr : r.size ≤ 4000000) :
    Calls Try.prog 35 #[.agg #[.string t, .string i], .string r] w fun e w' => e = .returned (.agg #[.string t, .string i, .string r]) ∧ Below w.heap.size w w' := by
  have HC := Lib.hid (fun s w => clone_any s w)
  go_enter Try.func35, Try.ntmps35
  go_wp2_with fail
  obtain ⟨W, hW⟩ : ∃ W, W = (w.alloc (Obj.cells #[.string t, .string i] 45)).alloc (Obj.cells #[.string ⟨#[]⟩, .string ⟨#[]⟩, .string ⟨#[]⟩] 23) := ⟨_, rfl⟩
  have hH : Held w [(⟨w.heap.size, 0, none⟩, .string t), (⟨w.heap.size, 1, none⟩, .string i), (⟨w.heap.size + 1, 0, none⟩, .string ⟨#[]⟩), (⟨w.heap.size + 1, 1, none⟩, .string ⟨#[]⟩), (⟨w.heap.size + 1, 2, none⟩, .string ⟨#[]⟩)] W := by
    rw [hW]
    refine ⟨((Below.refl _ _).alloc (Nat.le_refl _) _).alloc (by simp) _, ?_⟩
    simp only [List.forall_mem_cons]
    simp
    omega
  rw [← hW]
  clear hW
  have I0 := hH.drew
  have q := I0.all
  simp only [List.forall_mem_cons] at q
  clear hH
  obtain ⟨⟨z0, q0, _⟩, ⟨_, q1, _⟩, ⟨z1, q2, g2⟩, ⟨_, q3, g3⟩, ⟨_, q4, g4⟩, _⟩ := q
  go_region_held3 (fun x => x.cell? ⟨w.heap.size, 0, none⟩ = some (.string t) ∧ x.cell? ⟨w.heap.size, 1, none⟩ = some (.string i) ∧ Below w.heap.size w x)
    (first | (exact ⟨by assumption, by assumption, Held.below (by assumption)⟩) | (refine ⟨by go_keep, by go_keep, ?_⟩; (repeat (refine Below.setCell ?_ (by simp) _)); exact Held.below (by assumption)))
    (first | (go_at_call 23; refine (HC.out _ _ (by omega)).mono ?_; rintro e w1 ⟨rfl, b1⟩; have I := Held.step b1 (by assumption); have q := I.all; simp only [List.forall_mem_cons] at q; obtain ⟨⟨_, k0, _⟩, ⟨_, k1, _⟩, ⟨_, k2, f2⟩, ⟨_, k3, f3⟩, ⟨_, k4, f4⟩, _⟩ := q))
  go_wp2
  refine bodyPost_ret (v := .agg #[.string t, .string i, .string r]) (by simp [results, Try.results35, go_sem, k2, k3, k4]) rfl ?_
  exact ⟨rfl, (((Held.below I).setCell (by simp) _).setCell (by simp) _).setCell (by simp) _⟩
end Who
end Go.Proofs.Ytbgbkhjcfchamaa
