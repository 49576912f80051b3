/-
  Layer 12: the program's tray: what is asked of it: Sectors, Cached, Dark, has, step, Power.
-/
import Derived.Test.YtdodmjcbjknneaaTaMem
namespace Go.Proofs.Ytdodmjcbjknneaa
set_option maxRecDepth 100000
open Go.RowKit
namespace Ta
open Knot (Turns NewRow)
open Tr (IsElem append_rows own_turn own_below own_slice own_open addp)

abbrev ptr (p : Nat) : Value := .pointer (some ⟨p, 0, none⟩)
section
variable {w : World} {p n : Nat} {t : Tray (List UInt8)} {F : Nat → Prop}

set_option maxHeartbeats 2000000 in
set_option maxRecDepth 100000 in
theorem sectors_any (h : IsT w p n t F) : Calls Try.prog 45 #[ptr p] w fun e x => e = .returned (.int .i64 n) ∧ x = w := by
  obtain ⟨gn, cn, gk, ck, cv, hl⟩ := h.mem
  obtain ⟨c0, -⟩ := boxC_cells hl.box
  clear h hl
  go_enter Try.func45, Try.ntmps45
  go_wp2_with fail
  go_ret
  exact ⟨rfl, rfl⟩
set_option maxHeartbeats 2000000 in
set_option maxRecDepth 100000 in
theorem has_any (k : Int) (h : IsT w p n t F) : Calls Try.prog 42 #[ptr p, .int .i64 k] w fun e x => e = .returned (.bool (decide (0 ≤ k ∧ k < n))) ∧ x = w := by
  obtain ⟨gn, cn, gk, ck, cv, hl⟩ := h.mem
  obtain ⟨c0, -⟩ := boxC_cells hl.box
  clear h hl
  by_cases h0 : 0 ≤ k
  · have e : decide (0 ≤ k ∧ k < n) = decide (k < n) := by simp [h0]
    rw [e]
    go_enter Try.func42, Try.ntmps42
    go_wp2_with fail
    go_ret
    exact ⟨rfl, rfl⟩
  · have e : decide (0 ≤ k ∧ k < n) = false := by simp [h0]
    rw [e]
    go_enter Try.func42, Try.ntmps42
    go_wp2_with fail
    go_ret
    exact ⟨rfl, rfl⟩

/-- The tray behind a step, whether it was done or refused. -/
def Tray.step {α : Type} (t : Tray α) : Tray α := if t.left = 0 then t.dim else t.less
theorem box_set {c : Array Value} (h : w.heap[p]? = some (.cells c tTy (0, 0))) (j : Nat) (v : Value) : (w.setCell ⟨p, j, none⟩ v).heap[p]? = some (.cells (c.setIfInBounds j v) tTy (0, 0)) := heap_setCell_same w p j c tTy v h
theorem turn_set (w : World) (p j : Nat) (v : Value) : Turns (fun k => k = p) w (w.setCell ⟨p, j, none⟩ v) := (Turns.refl (fun k => k = p) w).setCell (p := ⟨p, j, none⟩) rfl v
theorem step_left {α : Type} {t : Tray α} (h : -1 ≤ t.left ∧ t.left ≤ 1099511627776) : -1 ≤ t.step.left ∧ t.step.left ≤ 1099511627776 := by
  unfold Tray.step
  by_cases e : t.left = 0
  · rw [if_pos e]; exact h
  · rw [if_neg e]
    show -1 ≤ (if 0 < t.left then t.left - 1 else t.left) ∧ (if 0 < t.left then t.left - 1 else t.left) ≤ _
    split <;> omega
theorem step_parts {α : Type} (t : Tray α) : t.step.kept = t.kept ∧ t.step.cache = t.cache := by
  unfold Tray.step
  split <;> exact ⟨rfl, rfl⟩

set_option maxHeartbeats 2000000 in
set_option maxRecDepth 100000 in
theorem step_any (h : IsT w p n t F) : Calls Try.prog 43 #[ptr p] w fun e x => e = .returned (.bool (decide (t.left ≠ 0))) ∧ Turns (fun k => k = p) w x ∧ IsT x p n t.step F := by
  obtain ⟨gn, cn, gk, ck, cv, hl⟩ := h.mem
  obtain ⟨-, -, -, c3, c4, c5⟩ := boxC_cells hl.box
  have f4 := boxC_free hl.box 4
  have f5 := boxC_free hl.box 5
  have hb := hl.box
  have hq := h.left
  have hR : ∀ x : World, Turns (fun k => k = p) w x → x.heap[p]? = some (.cells (boxC n t.step gn cn gk ck cv) tTy (0, 0)) → IsT x p n t.step F := fun x ht hx =>
    h.rebox hl (step_parts t).1 (step_parts t).2 (step_left h.left) ht hx
  have HR := Lib.hid hR
  have HB := Lib.hid hb
  clear h hl hR hb
  by_cases e : t.left < 0
  · have e3 : decide (0 ≤ t.left) = false := by simp; omega
    rw [e3] at c3
    have HS := Lib.hid (show w.heap[p]? = some (.cells (boxC n t.step gn cn gk ck cv) tTy (0, 0)) from by
      have : boxC n t.step gn cn gk ck cv = boxC n t gn cn gk ck cv := by
        unfold boxC Tray.step
        rw [if_neg (by omega)]
        simp [Tray.less, show ¬ 0 < t.left by omega]
      rw [this]; exact HB.out)
    rw [show decide (t.left ≠ 0) = true by simp; omega]
    clear c4 e3 hq e
    go_enter Try.func43, Try.ntmps43
    go_wp2_with fail
    go_ret
    exact ⟨rfl, Turns.refl _ _, HR.out _ (Turns.refl _ _) HS.out⟩
  · have e3 : decide (0 ≤ t.left) = true := by simp; omega
    have e4 : max t.left 0 = t.left := by omega
    rw [e3] at c3
    rw [e4] at c4
    by_cases e0 : t.left = 0
    · rw [e0] at c4
      have HS := Lib.hid (show (w.setCell ⟨p, 5, none⟩ (.bool true)).heap[p]? = some (.cells (boxC n t.step gn cn gk ck cv) tTy (0, 0)) from by
        rw [box_set HB.out]
        unfold boxC Tray.step
        rw [if_pos e0]
        rfl)
      rw [show decide (t.left ≠ 0) = false by simp [e0]]
      clear e3 e4 hq e e0
      go_enter Try.func43, Try.ntmps43
      go_wp2_with fail
      go_ret
      exact ⟨rfl, turn_set _ _ _ _, HR.out _ (turn_set _ _ _ _) HS.out⟩
    · have hw : IntKind.wrap .i64 (t.left - 1) = t.left - 1 := by rw [IntKind.wrap_i64] <;> omega
      have hn0 : (t.left == 0) = false := by simp [e0]
      have HS := Lib.hid (show (w.setCell ⟨p, 4, none⟩ (.int .i64 (t.left - 1))).heap[p]? = some (.cells (boxC n t.step gn cn gk ck cv) tTy (0, 0)) from by
        rw [box_set HB.out]
        have ea : t.step = { t with left := t.left - 1 } := by
          unfold Tray.step Tray.less
          rw [if_neg e0, if_pos (by omega)]
        rw [ea]
        unfold boxC
        have e5 : max (t.left - 1) 0 = t.left - 1 := by omega
        have e6 : decide (0 ≤ t.left - 1) = true := by simp; omega
        simp only [e5, e6, e3]
        rfl)
      rw [show decide (t.left ≠ 0) = true by simp [e0]]
      clear e3 e4 hq e
      go_enter Try.func43, Try.ntmps43
      go_wp2_with fail
      go_ret
      exact ⟨rfl, turn_set _ _ _ _, HR.out _ (turn_set _ _ _ _) HS.out⟩

set_option maxHeartbeats 2000000 in
set_option maxRecDepth 100000 in
/-- A power is told. -/
theorem power_any (z : Int) (h : IsT w p n t F) : Calls Try.prog 21 #[ptr p, .int .i64 z] w fun e x =>
    e = .returned (.int .i64 (if 0 ≤ z ∧ z ≤ 1099511627776 then 0 else 1)) ∧ Turns (fun k => k = p) w x ∧ IsT x p n (if 0 ≤ z ∧ z ≤ 1099511627776 then t.power z else t) F := by
  by_cases h0 : z < 0
  · simp only [show ¬ (0 ≤ z ∧ z ≤ 1099511627776) by omega, if_false]
    go_enter Try.func21, Try.ntmps21
    go_wp2_with fail
    go_ret
    exact ⟨rfl, Turns.refl _ _, h⟩
  · by_cases h1 : 1099511627776 < z
    · simp only [show ¬ (0 ≤ z ∧ z ≤ 1099511627776) by omega, if_false]
      go_enter Try.func21, Try.ntmps21
      go_wp2_with fail
      go_ret
      exact ⟨rfl, Turns.refl _ _, h⟩
    · simp only [show 0 ≤ z ∧ z ≤ 1099511627776 by omega]
      obtain ⟨gn, cn, gk, ck, cv, hl⟩ := h.mem
      obtain ⟨-, -, -, c3, c4, c5⟩ := boxC_cells hl.box
      have f3 := boxC_free hl.box 3
      have f4 := boxC_free hl.box 4
      have f5 := boxC_free hl.box 5
      have H := Lib.hid (And.intro h hl)
      have HT := Lib.hid (((turn_set w p 3 (.bool true)).trans (turn_set _ p 4 (.int .i64 z)) fun _ _ h => h).trans (turn_set _ p 5 (.bool false)) fun _ _ h => h)
      have HS := Lib.hid (show (((w.setCell ⟨p, 3, none⟩ (.bool true)).setCell ⟨p, 4, none⟩ (.int .i64 z)).setCell ⟨p, 5, none⟩ (.bool false)).heap[p]? = some (.cells (boxC n (t.power z) gn cn gk ck cv) tTy (0, 0)) from by
        rw [box_set (box_set (box_set hl.box 3 _) 4 _)]
        unfold boxC Tray.power
        have e5 : max z 0 = z := by omega
        have e6 : decide (0 ≤ z) = true := by simp; omega
        simp only [e5, e6]
        rfl)
      clear h hl
      go_enter Try.func21, Try.ntmps21
      go_wp2_with fail
      go_ret
      exact ⟨rfl, HT.out, H.out.1.rebox H.out.2 rfl rfl (by show -1 ≤ z ∧ z ≤ _; omega) HT.out HS.out⟩
end
end Ta
end Go.Proofs.Ytdodmjcbjknneaa
