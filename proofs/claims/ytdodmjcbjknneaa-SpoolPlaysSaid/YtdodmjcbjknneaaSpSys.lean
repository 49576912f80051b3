/-
  Layer 13: tray and spool side by side: a cut; appends without an end of power.
-/
import Derived.Test.YtdodmjcbjknneaaSpAwake
namespace Go.Proofs.Ytdodmjcbjknneaa
set_option maxRecDepth 100000
open Go.RowKit
open Knot (Turns NewRow)
open Ta (IsBytes Stay sec nul ptr IsT Tray Made Grow)
namespace Sp
/-- A remainder, in a region that draws its order. -/
theorem rem_at {P : Program} {a : Go.Act} {o : Oper} {w : World} {x y : Operand} {t ty : TypeId} {A B R : Int} (ho : o.op = .binOp .rem t x y ty) (hx : a.eval x = .int .i64 A) (hy : a.eval y = .int .i64 B) (hB : B ≠ 0) (hR : A.tmod B = R) :
    (execOp a.eval o).run P w = .ok (.value (.int .i64 R)) w := by
  unfold execOp
  simp [ho, hx, hy, eqGuard, binOp, Op.intDiv, hB, hR]
/-- No block was lost. -/
def Later (x y : World) : Prop := x.heap.size ≤ y.heap.size
theorem Later.refl (x : World) : Later x x := Nat.le_refl _
theorem Later.trans {x y z : World} (h : Later x y) (k : Later y z) : Later x z := Nat.le_trans h k
theorem wrote_cached (s : S) (b : List UInt8) (o : Nat) (t : Tray (List UInt8)) (h : t.left = -1) : (wrote s b o t).1.cache = [] := by
  obtain ⟨h1, h2⟩ := wr_free s b o o 0 t h
  unfold wrote
  simp only [h1, if_true]
  rw [if_neg (by omega)]
  unfold Tray.flush
  rw [if_neg (by omega)]
section
variable {w x y : World} {p q n : Nat} {t : Tray (List UInt8)} {s : S} {F : Nat → Prop}
theorem Sys.cut (h : Sys w x p q n t s F) : Calls Try.prog 20 #[ptr q] x fun e y => e = .returned (.tuple #[]) ∧ Sys w y p q n t { s with head := s.tail } F ∧ Turns (fun k => k = q) x y := by
  refine (cut_any h.spool).mono ?_
  rintro e y ⟨rfl, ht, hq⟩
  refine ⟨rfl, ⟨h.below.trans (ht.below h.below.size fun k hk => by rw [hk]; exact h.newq), h.tray.turn ht fun k hk e => h.off (e ▸ hk), hq, ⟨h.fits.count, h.fits.first, Nat.le_refl _, h.fits.tail, h.fits.epoch⟩, h.room, h.off, h.new, h.newq⟩, ht⟩
theorem Sys.room_ (h : Sys w x p q n t s F) : Calls Try.prog 27 #[ptr q] x fun e y => e = .returned (.int .i64 ((s.count : Int) - ((s.tail : Int) - (s.head : Int)))) ∧ Below x.heap.size x y ∧ Sys w y p q n t s F := by
  refine (room_any h.spool h.fits).mono ?_
  rintro e y ⟨rfl, hb⟩
  exact ⟨rfl, hb, h.on hb⟩
theorem Sys.pow (h : Sys w x p q n t s F) (z : Int) : Calls Try.prog 21 #[ptr p, .int .i64 z] x fun e y => e = .returned (.int .i64 (if 0 ≤ z ∧ z ≤ 1099511627776 then 0 else 1)) ∧ Sys w y p q n (if 0 ≤ z ∧ z ≤ 1099511627776 then t.power z else t) s F ∧ Turns (fun k => k = p) x y := by
  refine (Ta.power_any z h.tray).mono ?_
  rintro e y ⟨rfl, ht, hi⟩
  refine ⟨rfl, ⟨h.below.trans (ht.below h.below.size fun k hk => by rw [hk]; exact h.new p h.tray.fp), hi, h.spool.turn ht fun e => h.off (e ▸ h.tray.fp), h.fits, h.room, h.off, h.new, h.newq⟩, ht⟩
end
end Sp
end Go.Proofs.Ytdodmjcbjknneaa
