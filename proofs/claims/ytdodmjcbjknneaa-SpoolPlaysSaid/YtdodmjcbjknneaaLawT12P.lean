/-
  TrayPowers, walked: with a power of so many steps just so many are done.
-/
import Derived.Test.YtdodmjcbjknneaaTaAwake
namespace Go.Proofs.Ytdodmjcbjknneaa
set_option maxRecDepth 100000
open Go.RowKit
namespace Ta
open Knot (Turns NewRow)
section
variable {w x y : World} {p n : Nat} {t : Tray (List UInt8)} {F : Nat → Prop}
theorem power_at (h : At w x p n t) (z : Int) : Calls Try.prog 21 #[ptr p, .int .i64 z] x fun e y => e = .returned (.int .i64 (if 0 ≤ z ∧ z ≤ 1099511627776 then 0 else 1)) ∧ At w y p n (if 0 ≤ z ∧ z ≤ 1099511627776 then t.power z else t) := by
  refine (power_any z h.is).mono ?_
  rintro e y ⟨rfl, ht, hi⟩
  exact ⟨rfl, h.step (Below.refl _ _) (ht.mono fun _ _ e => by rw [e]; exact h.is.fp) hi.grow⟩
theorem read_at (h : At w x p n t) (k : Int) (h0 : 0 ≤ k) (h1 : k < n) : Calls Try.prog 28 #[ptr p, .int .i64 k] x fun e y => e = .returned (.tuple #[.slice (some ⟨x.heap.size, 0, none⟩) 128 128, .int .i64 0]) ∧ At w y p n t ∧ y.heap[x.heap.size]? = some (.cells (sec (t.read nul k)) tSe (0, 0)) ∧ Below x.heap.size x y := by
  refine (tread_any k h.is h0 h1).mono ?_
  rintro e y ⟨rfl, hx, hb⟩
  exact ⟨rfl, h.on hb, hx, hb⟩
theorem acts_len {v : Value} {l : List Act} (h : IsActs w v l) : ∃ ao cap, v = .slice ao l.length cap ∧ l.length ≤ 9223372036854775807 := by
  obtain ⟨ao, cap, rfl, h1, h2, -⟩ := h
  exact ⟨ao, cap, rfl, Nat.le_trans h1 (Nat.le_trans h2 (by decide))⟩
end
/-- A step that was asked for: what a write or a flush makes of a power. -/
structure Step1 (t t' : Tray (List UInt8)) : Prop where
  left : t'.left = max (t.left - 1) 0
  dark : t'.dark = (decide (t.left = 0) || t.dark)
  few : t'.cache.length ≤ t.cache.length + 1
theorem write_step {t : Tray (List UInt8)} (h : 0 ≤ t.left) (k : Int) (h0 : 0 ≤ k) (h1 : k < 4) (u : UInt8) : (t.write 4 k [u]).2 = (if t.left = 0 then 20 else 0) ∧ Step1 t (t.write 4 k [u]).1 := by
  have e : t.write 4 k [u] = (t.put k (pad [u]), if t.left = 0 then 20 else 0) := by
    unfold Tray.write Tray.put
    rw [if_neg (by simp; omega)]
    by_cases h0 : t.left = 0
    · rw [if_pos h0, if_pos h0, if_pos h0]
    · rw [if_neg h0, if_neg h0, if_neg h0]
  rw [e]
  obtain ⟨h2, h3⟩ := Tray.put_steps h k (pad [u])
  refine ⟨rfl, h2, h3, ?_⟩
  unfold Tray.put
  split
  · show t.cache.length ≤ _
    omega
  · simp
theorem flush_step {t : Tray (List UInt8)} (h : 0 ≤ t.left) : Step1 t t.flush := by
  obtain ⟨h2, h3⟩ := Tray.flush_steps h
  refine ⟨h2, h3, ?_⟩
  unfold Tray.flush
  split
  · show t.cache.length ≤ _
    omega
  · simp

namespace LawT12P
end LawT12P
end Ta
end Go.Proofs.Ytdodmjcbjknneaa
