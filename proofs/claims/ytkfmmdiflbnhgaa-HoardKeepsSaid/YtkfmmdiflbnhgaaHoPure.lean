/-
  Layer 14, pure: a mark as a sector, and what a sector tells.
-/
import Derived.Test.YtkfmmdiflbnhgaaSgpA
namespace Go.Proofs.Ytkfmmdiflbnhgaa
set_option maxRecDepth 100000
namespace Ho
open Sp (be be_len be_at num num_be_of num_take num_lt_take num_lt crc crc_lt spl spl_len spl_fil fil fil_len part_at)
/-- The numbers of a mark, six bytes each. -/
def six (ms : List Nat) : List UInt8 := ms.flatMap (be 6)
theorem six_len : ∀ ms : List Nat, (six ms).length = 6 * ms.length
  | [] => rfl
  | m :: ms => by
    have h := six_len ms
    simp only [six, List.flatMap_cons, List.length_append, be_len, List.length_cons] at h ⊢
    omega
theorem six_take {ms : List Nat} {i : Nat} (h : i < ms.length) : six (ms.take (i + 1)) = six (ms.take i) ++ be 6 ms[i] := by
  rw [List.take_succ_eq_append_getElem h]
  simp only [six, List.flatMap_append, List.flatMap_cons, List.flatMap_nil, List.append_nil]
/-- The 124 bytes ahead of the sum. -/
def mhead (ms : List Nat) : List UInt8 := (77 :: six ms) ++ List.replicate 93 0
/-- A mark's sector. -/
def mkS (ms : List Nat) : List UInt8 := mhead ms ++ be 4 (crc (mhead ms))
section
variable {ms : List Nat}
theorem mhead_len (h : ms.length = 5) : (mhead ms).length = 124 := by
  simp [mhead, six_len, h]
theorem mkS_len (h : ms.length = 5) : (mkS ms).length = 128 := by
  rw [mkS, List.length_append, mhead_len h, be_len]
theorem fil_mhead (h : ms.length = 5) : fil (77 :: six ms) = mhead ms ++ List.replicate 4 0 := by
  rw [fil, show (77 :: six ms).length = 31 by simp [six_len, h], mhead, List.append_assoc, List.replicate_append_replicate]
theorem fil_mtake (h : ms.length = 5) : (fil (77 :: six ms)).take 124 = mhead ms := by
  rw [fil_mhead h, List.take_left' (mhead_len h)]
theorem fil_mstart : (List.replicate 128 (0 : UInt8)).set 0 77 = fil (77 :: six []) := by decide +kernel
/-- The first k bytes of the sum are laid behind the head. -/
def part4 (ms : List Nat) (k : Nat) : List UInt8 := mhead ms ++ ((be 4 (crc (mhead ms))).take k ++ List.replicate (4 - k) 0)
theorem part4_zero (h : ms.length = 5) : fil (77 :: six ms) = part4 ms 0 := by rw [fil_mhead h]; rfl
theorem part4_all (ms : List Nat) : part4 ms 4 = mkS ms := by
  rw [part4, mkS, List.take_of_length_le (by rw [be_len]; exact Nat.le_refl _)]
  simp
theorem part4_len (h : ms.length = 5) {k : Nat} (hk : k ≤ 4) : (part4 ms k).length = 128 := by
  rw [part4, List.length_append, mhead_len h, List.length_append, List.length_take, be_len, List.length_replicate]
  omega
theorem put_one {H L : List UInt8} (hH : H.length = 124) (hL : L.length = 4) {k : Nat} (hk : k < 4) : (H ++ (L.take k ++ List.replicate (4 - k) 0)).set (124 + k) (L[k]'(by omega)) = H ++ (L.take (k + 1) ++ List.replicate (4 - (k + 1)) 0) := by
  rw [List.set_append_right _ _ (by omega), hH, show 124 + k - 124 = k by omega, List.set_append_right _ _ (by rw [List.length_take]; omega), List.length_take, show k - min k L.length = 0 by omega, List.take_succ_eq_append_getElem (by omega), List.append_assoc]
  congr 2
  rw [show 4 - k = (4 - (k + 1)) + 1 by omega, List.replicate_succ]
  rfl
theorem part4_set (h : ms.length = 5) {k : Nat} (hk : k < 4) : (part4 ms k).set (124 + k) ((be 4 (crc (mhead ms)))[k]'(by rw [be_len]; exact hk)) = part4 ms (k + 1) :=
  put_one (mhead_len h) (be_len _ _) hk
end
/-- What a sector tells: five numbers. -/
def mkO (b : List UInt8) : List Nat := (List.range 5).map fun i => num ((b.drop (1 + 6 * i)).take 6)
theorem mkO_len (b : List UInt8) : (mkO b).length = 5 := by simp [mkO]
theorem mkO_at (b : List UInt8) {i : Nat} (h : i < (mkO b).length) : (mkO b)[i] = num ((b.drop (1 + 6 * i)).take 6) := by simp [mkO]
theorem mkO_lt {b : List UInt8} (hb : b.length = 128) : ∀ n ∈ mkO b, n < 281474976710656 := fun n hn => by
  simp only [mkO, List.mem_map, List.mem_range] at hn
  obtain ⟨i, hi, rfl⟩ := hn
  have h := num_lt ((b.drop (1 + 6 * i)).take 6)
  rw [show ((b.drop (1 + 6 * i)).take 6).length = 6 by simp; omega] at h
  exact h
/-- A mark at a place: of its turn's. -/
def IsMk (b : List UInt8) (at_ : Nat) : Prop := b = mkS (mkO b) ∧ (mkO b).getD 0 0 % 2 = at_
instance (b : List UInt8) (k : Nat) : Decidable (IsMk b k) := by unfold IsMk; infer_instance
end Ho
end Go.Proofs.Ytkfmmdiflbnhgaa
