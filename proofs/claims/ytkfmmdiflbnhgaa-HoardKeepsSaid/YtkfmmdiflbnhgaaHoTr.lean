/-
  Layer 14, pure: what is done to a tray: a mark is set, an image is written, its mark set; which mark counts.
-/
import Derived.Test.YtkfmmdiflbnhgaaHoPure
import Derived.Test.YtkfmmdiflbnhgaaSgpA
namespace Go.Proofs.Ytkfmmdiflbnhgaa
set_option maxRecDepth 100000
open Go.RowKit
open Ta (IsBytes sec nul Tray)
open Sp (num)
namespace Ho
/-- A mark's cells. -/
def mcs (ms : List Nat) : Array Value := (ms.map fun n : Nat => Value.int .i64 (n : Int)).toArray
theorem five {ms : List Nat} (h : ms.length = 5) : ∃ a b c d e, ms = [a, b, c, d, e] := by
  match ms, h with
  | [a, b, c, d, e], _ => exact ⟨a, b, c, d, e, rfl⟩
theorem mcs5 (a b c d e : Nat) : mcs [a, b, c, d, e] = #[.int .i64 (a : Int), .int .i64 (b : Int), .int .i64 (c : Int), .int .i64 (d : Int), .int .i64 (e : Int)] := rfl
/-- A mark is set: its sector, the flush; the error. -/
def setT (t : Tray (List UInt8)) (ms : List Nat) : Tray (List UInt8) × Int :=
  if t.left = 0 then (t.dim, 20) else
    if (t.put ((ms.getD 0 0 % 2 : Nat) : Int) (mkS ms)).left = 0 then ((t.put ((ms.getD 0 0 % 2 : Nat) : Int) (mkS ms)).flush, 20) else ((t.put ((ms.getD 0 0 % 2 : Nat) : Int) (mkS ms)).flush, 0)
/-- The bytes of the k-th sector of an image. -/
def chk (b : List UInt8) (k : Nat) : List UInt8 := (b.drop (k * 128)).take 128
theorem chk_le (b : List UInt8) (k : Nat) : (chk b k).length ≤ 128 := by simp [chk]; omega
theorem chk_len (b : List UInt8) (k : Nat) : (chk b k).length = min (k * 128 + 128) b.length - k * 128 := by simp [chk]; omega
/-- So many sectors, from the k-th on, are written from the sector a on; was no step refused? -/
def fwr (a : Nat) (b : List UInt8) : Nat → Nat → Tray (List UInt8) → Tray (List UInt8) × Bool
  | 0, _, t => (t, true)
  | f + 1, k, t => if t.left = 0 then (t.dim, false) else fwr a b f (k + 1) (t.put ((a + k : Nat) : Int) (Ta.pad (chk b k)))
theorem fwr_stop {a : Nat} {b : List UInt8} {f k : Nat} {t : Tray (List UInt8)} (h : t.left = 0) : fwr a b (f + 1) k t = (t.dim, false) := by rw [fwr, if_pos h]
theorem fwr_go {a : Nat} {b : List UInt8} {f k : Nat} {t : Tray (List UInt8)} (h : t.left ≠ 0) : fwr a b (f + 1) k t = fwr a b f (k + 1) (t.put ((a + k : Nat) : Int) (Ta.pad (chk b k))) := by rw [fwr, if_neg h]
/-- How many sectors an image takes. -/
def takes (b : List UInt8) : Nat := (b.length + 127) / 128
/-- An image is written, and flushed; the error. -/
def fieldT (a : Nat) (b : List UInt8) (t : Tray (List UInt8)) : Tray (List UInt8) × Int :=
  if (fwr a b (takes b) 0 t).2 then ((fwr a b (takes b) 0 t).1.flush, if (fwr a b (takes b) 0 t).1.left = 0 then 20 else 0) else ((fwr a b (takes b) 0 t).1, 20)
theorem write_part {n : Nat} {t : Tray (List UInt8)} {k : Nat} {b : List UInt8} (hk : k < n) (hb : b.length ≤ 128) : t.write n (k : Int) b = (if t.left = 0 then t.dim else t.put (k : Int) (Ta.pad b), if t.left = 0 then 20 else 0) := by
  unfold Tray.write
  rw [if_neg (by omega)]
  by_cases h : t.left = 0
  · rw [if_pos h, if_pos h, if_pos h]
  · rw [if_neg h, if_neg h, if_neg h]
/-- What counts: the mark; is there one? -/
def cnt (t : Tray (List UInt8)) : List Nat × Bool :=
  if IsMk (t.read nul 0) 0 ∧ (¬ IsMk (t.read nul 1) 1 ∨ (mkO (t.read nul 1)).getD 0 0 < (mkO (t.read nul 0)).getD 0 0) then (mkO (t.read nul 0), true) else (mkO (t.read nul 1), decide (IsMk (t.read nul 1) 1))
/-- An image is written to a field, and then its mark is set; the error. -/
def keepT (a : Nat) (b : List UInt8) (ms : List Nat) (t : Tray (List UInt8)) : Tray (List UInt8) × Int :=
  if (fieldT a b t).2 = 0 then setT (fieldT a b t).1 ms else fieldT a b t
/-- The first i numbers are told, and of the next one the first j bytes. -/
def told (D : List UInt8) (i : Nat) : List Nat := (mkO D).take i ++ List.replicate (5 - i) 0
theorem told_len (D : List UInt8) {i : Nat} (h : i ≤ 5) : (told D i).length = 5 := by
  rw [told, List.length_append, List.length_take, mkO_len, List.length_replicate]; omega
theorem told_zero (D : List UInt8) : told D 0 = [0, 0, 0, 0, 0] := rfl
theorem told_all (D : List UInt8) : told D 5 = mkO D := by
  rw [told, List.take_of_length_le (by rw [mkO_len]; exact Nat.le_refl _)]
  simp
theorem told_at (D : List UInt8) {i : Nat} (h : i < 5) : (told D i)[i]'(by rw [told_len D (by omega)]; exact h) = 0 := by
  unfold told
  rw [List.getElem_append_right (by rw [List.length_take, mkO_len]; omega)]
  simp
theorem told_set (D : List UInt8) {i : Nat} (h : i < 5) : (told D i).set i (num ((D.drop (1 + 6 * i)).take 6)) = told D (i + 1) := by
  have hl : ((mkO D).take i).length = i := by rw [List.length_take, mkO_len]; omega
  unfold told
  have e := List.take_succ_eq_append_getElem (l := mkO D) (i := i) (by rw [mkO_len]; exact h)
  rw [mkO_at] at e
  rw [List.set_append_right _ _ (by omega), hl, Nat.sub_self, e, List.append_assoc]
  congr 1
  rw [show 5 - i = (5 - (i + 1)) + 1 by omega, List.replicate_succ]
  rfl
end Ho
end Go.Proofs.Ytkfmmdiflbnhgaa
