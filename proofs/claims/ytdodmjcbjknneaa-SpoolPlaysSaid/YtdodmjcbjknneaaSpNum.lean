/-
  Layer 13: the program's put, take, partsOf.
-/
import Derived.Test.YtdodmjcbjknneaaSpSum
namespace Go.Proofs.Ytdodmjcbjknneaa
set_option maxRecDepth 100000
open Go.RowKit
open Knot (Turns)
open Ta (IsBytes sec)
namespace Sp
/-- A slice of bytes that lie in a block's cells. -/
theorem idx_at (g o m cap i : Nat) (h : i < m) (_hm : m ≤ 9223372036854775807) (W : World) : (Instr.indexAt 22 (.slice (some ⟨g, o, none⟩) m cap) (.int .i64 (i : Int))).run Try.prog W = .ok (.pointer (some ⟨g, o + i, none⟩)) W := by
  have hz : ∀ w, (sizeOf (Try.prog.elem 22)).run Try.prog w = .ok 1 w := fun w => by kernel_rfl
  rw [run_indexAt_slice W _ _ _ _ _ _ Try.underlying22, if_pos ⟨by omega, by omega⟩, hz]
  have e : ((i : Int)).toNat = i := by omega
  simp only [Result.andThen_ok, e, Addr.add_lit, Nat.mul_one]
/-- A block of 128 bytes, of whatever type. -/
def Blk (w : World) (g : Nat) (T : TypeId) (D : List UInt8) : Prop := w.heap[g]? = some (.cells (sec D) T (0, 0))
section
variable {w x : World} {g : Nat} {T : TypeId} {D : List UInt8}
theorem Blk.lt (h : Blk w g T D) : g < w.heap.size := (Array.getElem?_eq_some_iff.1 h).1
theorem Blk.on (h : Blk w g T D) (hb : Below w.heap.size w x) : Blk x g T D := (hb.block g h.lt).trans h
theorem Blk.turn {F : Nat → Prop} (h : Blk w g T D) (ht : Turns F w x) (hF : ¬ F g) : Blk x g T D := ht.heap h hF
theorem Blk.cell (h : Blk w g T D) {j : Nat} (hj : j < D.length) : w.cell? ⟨g, j, none⟩ = some (.int .u8 (D[j].toNat : Nat)) := by
  rw [Lib.cell_of_heap h]
  simp [sec, Lib.byteCells, hj]
theorem Blk.free (h : Blk w g T D) (j : Nat) : w.frozen? ⟨g, j, none⟩ = false := Lib.frozen_of_heap h j
theorem Blk.set (h : Blk w g T D) (j : Nat) (u : UInt8) : Blk (w.setCell ⟨g, j, none⟩ (.int .u8 (u.toNat : Nat))) g T (D.set j u) := by
  have := heap_setCell_same w g j (sec D) T (.int .u8 (u.toNat : Nat)) h
  unfold Blk
  rw [this]
  congr 2
  simp [sec, Lib.byteCells, List.map_set]
/-- Bytes that lie in a block. -/
theorem Blk.bytes (h : Blk w g T D) {o m cap : Nat} (ho : o + m ≤ D.length) (hc : m ≤ cap) (hcm : cap ≤ maxLen) : IsBytes w (.slice (some ⟨g, o, none⟩) m cap) ((D.drop o).take m) := by
  have e : ((D.drop o).take m).length = m := by simp; omega
  refine ⟨some ⟨g, o, none⟩, cap, by rw [e], by omega, hcm, fun _ => ⟨g, o, rfl, fun j u hu => ?_⟩⟩
  have hj := (List.getElem?_eq_some_iff.1 hu).1
  rw [Lib.byteCells_length, e] at hj
  rw [h.cell (by omega), ← hu]
  simp only [Lib.byteCells, List.getElem?_map, List.getElem?_take, hj, if_true, List.getElem?_drop]
  rw [List.getElem?_eq_getElem (by omega)]
  rfl
end
theorem part_set {D c : List UInt8} {o i : Nat} (h : i < c.length) (ho : o + c.length ≤ D.length) : (spl D (o + i) (c.drop i)) = (spl D (o + i + 1) (c.drop (i + 1))).set (o + i) c[i] := by
  have e : c.drop i = c[i] :: c.drop (i + 1) := List.drop_eq_getElem_cons h
  have hl : o + i < D.length := by omega
  have e1 : D.take (o + i + 1) = D.take (o + i) ++ [D[o + i]] := List.take_succ_eq_append_getElem hl
  have e2 : (D.take (o + i)).length = o + i := by rw [List.length_take]; omega
  have e3 : o + i + (c.drop i).length = o + i + 1 + (c.drop (i + 1)).length := by simp only [List.length_drop]; omega
  unfold spl
  rw [e3, e1, List.append_assoc, List.set_append_right _ _ (by rw [e2]; exact Nat.le_refl _), e2, Nat.sub_self, e]
  rfl
set_option maxHeartbeats 4000000 in
set_option maxRecDepth 100000 in
theorem put_any (g o m cap : Nat) (n : Nat) (T : TypeId) (D : List UInt8) (w : World) (h : Blk w g T D) (hd : D.length = 128) (ho : o + m ≤ 128) (hm : m ≤ 6) (_hn : n < 9223372036854775808) :
    Calls Try.prog 53 #[.slice (some ⟨g, o, none⟩) m cap, .int .i64 (n : Int)] w fun e x => e = .returned (.tuple #[]) ∧ Turns (fun k => k = g) w x ∧ x.heap.size = w.heap.size ∧ Blk x g T (spl D o (be m n)) := by
  have hix := idx_at g o m cap
  go_enter Try.func53, Try.ntmps53
  go_wp2_with fail
  go_loopw [7] (fun i x => ∃ j : Nat, j ≤ m ∧ i = .int .i64 (j : Int) ∧ Hid (Turns (fun k => k = g) w x ∧ x.heap.size = w.heap.size ∧ Blk x g T (spl D (o + (m - j)) ((be m n).drop (m - j))))) (fun i _ => m - (intOf i).toNat)
  case atStart => exact ⟨0, by omega, rfl, Turns.refl _ _, rfl, by rw [Nat.sub_zero, List.drop_eq_nil_of_le (by rw [be_len]; omega), spl_nil]; exact h⟩
  case round =>
    obtain ⟨j, hj, rfl, HX⟩ := hrel
    by_cases hlt : j < m
    · have hi := hix (m - 1 - j) (by omega) (by omega)
      have hbl : (be m n).length = m := be_len _ _
      have hsl : (spl D (o + (m - j)) ((be m n).drop (m - j))).length = 128 := by rw [spl_len (by simp [hbl, hd]; omega), hd]
      have hf := HX.out.2.2.free (o + (m - 1 - j))
      have hc := HX.out.2.2.cell (j := o + (m - 1 - j)) (by omega)
      have hv : (n : Int) / 2 ^ (8 * j) % 256 = (((be m n)[m - 1 - j]'(by omega)).toNat : Nat) := by
        rw [be_at, UInt8.toNat_ofNat', show m - 1 - (m - 1 - j) = j by omega, show (256 : Nat) ^ j = 2 ^ (8 * j) by rw [Nat.pow_mul]]
        simp
      have hn := HX.out.2.2.set (o + (m - 1 - j)) ((be m n)[m - 1 - j]'(by omega))
      rw [show m - j = (m - 1 - j) + 1 by omega, ← Nat.add_assoc, ← part_set (D := D) (c := be m n) (o := o) (i := m - 1 - j) (by omega) (by omega)] at hn
      have HV := Lib.hid (And.intro hv hn)
      have ht := HX.out.1.setCell (p := ⟨g, o + (m - 1 - j), none⟩) rfl (.int .u8 (((be m n)[m - 1 - j]'(by omega)).toNat : Nat))
      have HT := Lib.hid ht
      clear hv hn ht hix
      go_wp2_with fail
      go_roundw
      case rel =>
        rw [HV.out.1]
        refine ⟨j + 1, by omega, by go_num, HT.out, by rw [← HX.out.2.1]; simp [World.setCell], ?_⟩
        rw [show m - (j + 1) = m - 1 - j by omega]
        exact HV.out.2
      case measure => simp [intOf]; omega
    · obtain rfl : j = m := by omega
      go_wp2_with fail
      go_end0
      refine ⟨rfl, HX.out.1, HX.out.2.1, ?_⟩
      have := HX.out.2.2
      rwa [Nat.sub_self, Nat.add_zero, List.drop_zero] at this
theorem or_i64 (C B : Nat) (hC : C < 1099511627776) (hB : B < 256) : Go.bits .or .i64 ((C : Int) * 256) (B : Int) = ((C * 256 + B : Nat) : Int) := by
  have h1 : (BitVec.ofInt 64 ((C : Int) * 256)).toNat = C * 256 := by
    rw [show ((C : Int) * 256) = ((C * 256 : Nat) : Int) by omega, BitVec.ofInt_natCast, BitVec.toNat_ofNat]; exact Nat.mod_eq_of_lt (by omega)
  have h2 : (BitVec.ofInt 64 (B : Int)).toNat = B := by
    rw [BitVec.ofInt_natCast, BitVec.toNat_ofNat]; exact Nat.mod_eq_of_lt (by omega)
  show IntKind.i64.wrap ((BitVec.ofInt 64 ((C : Int) * 256) ||| BitVec.ofInt 64 (B : Int)).toNat : Int) = _
  rw [BitVec.toNat_or, h1, h2, show C * 256 = 2 ^ 8 * C by omega, ← Nat.two_pow_add_eq_or_of_lt (by omega), IntKind.wrap_i64] <;> omega
set_option maxHeartbeats 4000000 in
set_option maxRecDepth 100000 in
theorem take_any (v : Value) (l : List UInt8) (w : World) (h : IsBytes w v l) (hl : l.length ≤ 6) : Calls Try.prog 55 #[v] w fun e x => e = .returned (.int .i64 (num l : Nat)) ∧ x = w := by
  have H := Lib.hid h
  obtain ⟨ao, cap, rfl, h1, h2, -⟩ := h
  clear h1 h2
  go_enter Try.func55, Try.ntmps55
  go_wp2_with fail
  go_loopw [3, 8] (fun c i x => ∃ j : Nat, j ≤ l.length ∧ i = .int .i64 (j : Int) ∧ c = .int .i64 (num (l.take j) : Nat) ∧ x = w) (fun _ i _ => l.length - (intOf i).toNat)
  case atStart => exact ⟨0, by omega, rfl, rfl, rfl⟩
  case round =>
    obtain ⟨j, hj, rfl, rfl, rfl⟩ := hrel
    by_cases hlt : j < l.length
    · obtain ⟨g, q, hix, hc⟩ := Ta.byte_at H.out hlt
      have HT := Lib.hid (num_take hlt)
      have hb : l[j].toNat < 256 := l[j].toNat_lt
      have hn : num (l.take j) < 1099511627776 := Nat.lt_of_lt_of_le (num_lt_take l j hj) (Nat.pow_le_pow_right (i := j) (j := 5) (by omega) (by omega))
      generalize num (l.take j) = C at *
      generalize l[j].toNat = B at *
      have hor : Go.bits .or .i64 ((C : Int) * 256) (B : Int) = ((C * 256 + B : Nat) : Int) := or_i64 C B hn hb
      have HO := Lib.hid hor
      clear hor
      go_wp2_with fail
      go_roundw
      case rel => exact ⟨j + 1, by omega, by go_num, by rw [HT.out, HO.out], trivial⟩
      case measure => simp [intOf]; omega
    · obtain rfl : j = l.length := by omega
      rw [List.take_length]
      go_wp2_with fail
      go_ret
      exact ⟨rfl, rfl⟩
/-- How many sectors so many bytes take. -/
def parts (n : Nat) : Nat := max 1 ((n + 107) / 108)
set_option maxHeartbeats 4000000 in
set_option maxRecDepth 100000 in
theorem parts_any (n : Nat) (hn : n ≤ 9223372036854775000) (w : World) : Calls Try.prog 37 #[.int .i64 (n : Int)] w fun e x => e = .returned (.int .i64 (parts n : Nat)) ∧ x = w := by
  go_enter Try.func37, Try.ntmps37
  have e : parts n = max 1 ((n + 107) / 108) := rfl
  by_cases h : (n + 107) / 108 ≤ 1
  · have h' : ((n : Int) + 108 - 1) / 108 ≤ 1 := by omega
    have e' : parts n = 1 := by omega
    rw [e']
    clear h e
    go_wp2_with fail
    go_ret
    exact ⟨rfl, rfl⟩
  · have h' : 1 < ((n : Int) + 108 - 1) / 108 := by omega
    have e' : ((n : Int) + 108 - 1) / 108 = (parts n : Nat) := by omega
    clear h e
    have E := Lib.hid e'
    clear e'
    go_wp2_with fail
    go_ret
    exact ⟨by rw [← E.out]; rfl, rfl⟩
end Sp
end Go.Proofs.Ytdodmjcbjknneaa
