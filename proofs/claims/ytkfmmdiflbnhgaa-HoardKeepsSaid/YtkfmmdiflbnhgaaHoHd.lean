/-
  Layer 14, pure: a hoard; what its calls make of it.
-/
import Derived.Test.YtkfmmdiflbnhgaaHoMrk
import Derived.Test.YtkfmmdiflbnhgaaHoImg
import Derived.Test.YtkfmmdiflbnhgaaSgpE
namespace Go.Proofs.Ytkfmmdiflbnhgaa
set_option maxRecDepth 100000
open Ta (nul Tray)
open Sp (S found)
namespace Ho
/-- A hoard: its tray, the mark that counts, the spool; was a step of an image's refused; was one at all? -/
structure Hd where
  t : Tray (List UInt8)
  m : List Nat
  s : S
  torn : Bool
  dead : Bool
/-- Its ring's spool, before anything was found. -/
def ringS (n head epoch : Nat) : S := ⟨2 + 2 * qu n, n - (2 + 2 * qu n), head, head, epoch, false⟩
/-- .. behind what was found. -/
def ringF (t : Tray (List UInt8)) (n head epoch : Nat) : S := { ringS n head epoch with tail := (found t (ringS n head epoch)).2 }
/-- A record is kept; the error. -/
def hkeep (h : Hd) (b : List UInt8) : Hd × Int :=
  if h.torn = true then (h, 20) else ({ h with t := (Sp.append h.s b h.t).1, s := (Sp.append h.s b h.t).2.1, dead := h.dead || decide ((Sp.append h.s b h.t).2.2 = 20) }, (Sp.append h.s b h.t).2.2)
/-- The mark behind a new image. -/
def nextM (h : Hd) (L : Nat) : List Nat := [h.m.getD 0 0 + 1, h.m.getD 1 0, 1 - h.m.getD 2 0, L, h.s.tail]
/-- What is done to the tray for a new image. -/
def imgK (n : Nat) (h : Hd) (b : List UInt8) : Tray (List UInt8) × Int := keepT (2 + (1 - h.m.getD 2 0) * qu n) b (nextM h b.length) h.t
def himage (n : Nat) (h : Hd) (b : List UInt8) : Hd × Int :=
  if qu n * 128 < b.length then (h, 3) else if h.dead = true then (h, 20) else
    if (imgK n h b).2 = 0 then (⟨(imgK n h b).1, nextM h b.length, { h.s with head := h.s.tail }, h.torn, h.dead⟩, 0) else ({ h with t := (imgK n h b).1, torn := true, dead := true }, 20)
/-- The mark that is set by an opening. -/
def openM (m : List Nat) : List Nat := [m.getD 0 0 + 1, m.getD 1 0 + 1, m.getD 2 0, m.getD 3 0, m.getD 4 0]
/-- Is a mark one that may be opened? -/
def Rot (n : Nat) (m : List Nat) : Prop := 1 < m.getD 2 0 ∨ qu n * 128 < m.getD 3 0 ∨ 4294967295 < m.getD 1 0 + 1 ∨ 1099511627776 < m.getD 4 0
instance (n : Nat) (m : List Nat) : Decidable (Rot n m) := by unfold Rot; infer_instance
/-- A hoard as it is opened. -/
def hopen (n : Nat) (t : Tray (List UInt8)) : Hd := ⟨(setT t (openM (cnt t).1)).1, openM (cnt t).1, ringF t n ((cnt t).1.getD 4 0) ((cnt t).1.getD 1 0 + 1), false, false⟩
/-- A hoard as it is laid. -/
def layM (L : Nat) : List Nat := [1, 1, 0, L, 0]
def hlay (n : Nat) (t : Tray (List UInt8)) (b : List UInt8) : Hd := ⟨(keepT 2 b (layM b.length) t).1, layM b.length, ringF t n 0 1, false, false⟩
theorem setT_code (t : Tray (List UInt8)) (ms : List Nat) : (setT t ms).2 = 0 ∨ (setT t ms).2 = 20 := by
  unfold setT
  split
  · exact .inr rfl
  · split
    · exact .inr rfl
    · exact .inl rfl
theorem fieldT_code (a : Nat) (b : List UInt8) (t : Tray (List UInt8)) : (fieldT a b t).2 = 0 ∨ (fieldT a b t).2 = 20 := by
  unfold fieldT
  split
  · by_cases h : (fwr a b (takes b) 0 t).1.left = 0
    · rw [if_pos h]; exact .inr rfl
    · rw [if_neg h]; exact .inl rfl
  · exact .inr rfl
theorem keepT_code (a : Nat) (b : List UInt8) (ms : List Nat) (t : Tray (List UInt8)) : (keepT a b ms t).2 = 0 ∨ (keepT a b ms t).2 = 20 := by
  unfold keepT
  split
  · exact setT_code _ _
  · exact fieldT_code _ _ _
end Ho
end Go.Proofs.Ytkfmmdiflbnhgaa
