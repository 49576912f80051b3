/-
  Layer 13's document: its put and get.
-/
import Derived.Test.YtdodmjcbjknneaaSpNum
namespace Go.Proofs.Ytdodmjcbjknneaa
set_option maxRecDepth 100000
open Go.RowKit
open Knot (Turns)
open Ta (IsBytes sec nul tSec)
namespace Sp
theorem nul_len : nul.length = 128 := rfl
/-- A block of 128 bytes, out of and into which a whole array goes. -/
theorem Blk.range {w : World} {g : Nat} {T : TypeId} {D : List UInt8} (h : Blk w g T D) : w.rangeAt g 0 (Lib.byteCells D) := fun j v hj => by
  rw [Nat.zero_add, Lib.cell_of_heap h]
  simpa [sec] using hj
/-- A whole array goes out of its block, and into it. -/
theorem wl_load {ops : Array Oper} {rest : List Oper} {op : Oper} {a : Go.Act} {w : World} {Q : Exit → Go.Act → World → Prop} (hgd : op.guard = none) (x : Operand) (ho : op.op = .load tSec x) {g : Nat} (hx : a.eval x = .pointer (some ⟨g, 0, none⟩)) {D : List UInt8} (h : Blk w g tSec D) (hd : D.length = 128)
    (hK : wpList Try.prog ops Q rest (a.put op.dst (.agg (sec D))) w) : wpList Try.prog ops Q (op :: rest) a w :=
  wpList_load_row hgd tSec x ho g hx tSec (sec D) (0, 0) _ h Try.underlying64 rfl (by rw [Ta.sec_size hd]; exact Ta.info_sec) hK
theorem wl_store {ops : Array Oper} {rest : List Oper} {op : Oper} {a : Go.Act} {w : World} {Q : Exit → Go.Act → World → Prop} (hgd : op.guard = none) (x y : Operand) (ho : op.op = .store tSec x y) {g : Nat} (hx : a.eval x = .pointer (some ⟨g, 0, none⟩)) {E : List UInt8} (hy : a.eval y = .agg (sec E)) {D : List UInt8} (h : Blk w g tSec D) (hd : D.length = 128) (he : E.length = 128)
    (hK : wpList Try.prog ops Q rest (a.put op.dst undef) (w.setRow g (sec E))) : wpList Try.prog ops Q (op :: rest) a w :=
  wpList_store_row hgd tSec x y ho g (sec E) hx hy tSec (sec D) h (by rw [Ta.sec_size he]; exact Ta.info_sec) (by rw [Ta.sec_size hd, Ta.sec_size he]) (Ta.sec_one E) hK
theorem Blk.row {w : World} {g : Nat} {T : TypeId} {D : List UInt8} (h : Blk w g T D) (E : List UInt8) : Blk (w.setRow g (sec E)) g T E := setRow_heap w g _ _ _ _ h
theorem turn_row (w : World) (g : Nat) (c : Array Value) : Turns (fun k => k = g) w (w.setRow g c) := ⟨rfl, rfl, rfl, by simp [World.setRow], fun k _ hk => setRow_other w g k _ hk⟩
theorem spl_one (D : List UInt8) (o : Nat) (u : UInt8) (h : o < D.length) : spl D o [u] = D.set o u := by
  rw [spl, List.length_singleton, List.set_eq_take_append_cons_drop, if_pos h]
  rfl
set_option maxHeartbeats 4000000 in
set_option maxRecDepth 100000 in
theorem dpb_any (D : List UInt8) (o m n : Nat) (hd : D.length = 128) (ho : o + m ≤ 128) (hm : m ≤ 6) (hn : n < 9223372036854775808) (w : World) :
    Calls Try.prog 51 #[.agg (sec D), .int .i64 (o : Int), .int .i64 (m : Int), .int .i64 (n : Int)] w fun e x => e = .returned (.agg (sec (spl D o (be m n)))) ∧ Below w.heap.size w x := by
  have hz := Ta.zero_sec
  have hnl : nul.length = 128 := rfl
  have hsz := @Ta.sec_size
  go_enter Try.func51, Try.ntmps51
  go_upto_region 1 with fail
  obtain ⟨X, hX⟩ : ∃ X, X = (w.alloc (.cells (sec D) tSec)).alloc (.cells (sec nul) tSec) := ⟨_, rfl⟩
  rw [← hX]
  have b1 := (Below.refl (w.alloc (.cells (sec D) tSec)).heap.size (w.alloc (.cells (sec D) tSec))).alloc (Nat.le_refl _) (.cells (sec nul) tSec)
  have b0 : Below w.heap.size w (w.alloc (.cells (sec D) tSec)) := (Below.refl w.heap.size w).alloc (Nat.le_refl _) (.cells (sec D) tSec)
  have hs1 : (w.alloc (.cells (sec D) tSec)).heap.size = w.heap.size + 1 := by simp
  have i2 := heap_alloc_new (w.alloc (.cells (sec D) tSec)) (.cells (sec nul) tSec)
  rw [hs1] at i2
  have HB := Lib.hid (show Below w.heap.size w X ∧ Blk X w.heap.size tSec D ∧ Blk X (w.heap.size + 1) tSec nul from by
    rw [hX]
    exact ⟨b0.trans (b1.mono (by omega)), Blk.on (heap_alloc_new w _) b1, i2⟩)
  clear hX b0 b1 i2 hs1 hz hsz
  generalize hg : w.heap.size = g at *
  generalize hR : g + 1 = R at *
  have HR := Lib.hid (show g < R by omega)
  clear hR
  go_wp2_with fail
  go_loopw [3, 9] (fun n' i x => ∃ j : Nat, j ≤ m ∧ n' = .int .i64 ((n / 256 ^ j : Nat) : Int) ∧ i = .int .i64 ((o : Int) + (m : Int) - 1 - (j : Int)) ∧ Hid (Turns (fun k => k = g) X x ∧ Blk x g tSec (spl D (o + (m - j)) ((be m n).drop (m - j))))) (fun _ i _ => (intOf i - (o : Int) + 1).toNat)
  case atStart => exact ⟨0, by omega, by simp, by simp, Turns.refl _ _, by rw [Nat.sub_zero, List.drop_eq_nil_of_le (by rw [be_len]; omega), spl_nil]; exact HB.out.2.1⟩
  case round =>
    obtain ⟨j, hj, rfl, rfl, HX⟩ := hrel
    by_cases hlt : j < m
    · have hbl : (be m n).length = m := be_len _ _
      have hsl : (spl D (o + (m - j)) ((be m n).drop (m - j))).length = 128 := by rw [spl_len (by simp [hbl, hd]; omega), hd]
      have hf := HX.out.2.free (o + (m - 1 - j))
      have hc := HX.out.2.cell (j := o + (m - 1 - j)) (by omega)
      have hv : ((n / 256 ^ j : Nat) : Int) % 256 = (((be m n)[m - 1 - j]'(by omega)).toNat : Nat) := by
        rw [be_at, UInt8.toNat_ofNat', show m - 1 - (m - 1 - j) = j by omega]
        simp
      have hn2 : n / 256 ^ (j + 1) = n / 256 ^ j / 256 := by rw [Nat.pow_succ, Nat.div_div_eq_div_mul]
      have hnl2 : n / 256 ^ j < 9223372036854775808 := Nat.lt_of_le_of_lt (Nat.div_le_self _ _) hn
      have hn' := HX.out.2.set (o + (m - 1 - j)) ((be m n)[m - 1 - j]'(by omega))
      rw [show m - j = (m - 1 - j) + 1 by omega, ← Nat.add_assoc, ← part_set (D := D) (c := be m n) (o := o) (i := m - 1 - j) (by omega) (by omega)] at hn'
      have HV := Lib.hid (And.intro hv (And.intro hn' hn2))
      have ht := HX.out.1.setCell (p := ⟨g, o + (m - 1 - j), none⟩) rfl (.int .u8 (((be m n)[m - 1 - j]'(by omega)).toNat : Nat))
      have HT := Lib.hid ht
      have hlo : o + (m - 1 - j) < 128 := by omega
      have hge : (o : Int) ≤ ((o + (m - 1 - j) : Nat) : Int) := by omega
      clear hv hn' ht hn2
      have hix : (o : Int) + (m : Int) - 1 - (j : Int) = ((o + (m - 1 - j) : Nat) : Int) := by omega
      rw [hix]
      clear hix
      generalize n / 256 ^ j = N at *
      generalize ((be m n)[m - 1 - j]'(by omega)) = u at *
      generalize (spl D (o + (m - j)) ((be m n).drop (m - j)))[o + (m - 1 - j)].toNat = u0 at *
      generalize hI : o + (m - 1 - j) = I at *
      go_wp2_with fail
      go_roundw
      case rel =>
        rw [HV.out.1]
        refine ⟨j + 1, by omega, congrArg (Value.int .i64) (by rw [HV.out.2.2]; omega), congrArg (Value.int .i64) (by omega), HT.out, ?_⟩
        rw [show m - (j + 1) = m - 1 - j by omega]
        have := HV.out.2.1
        rw [← hI]; rw [← hI] at this; exact this
      case measure => simp [intOf]; omega
    · obtain rfl : j = m := by omega
      have hge : ¬ (o : Int) ≤ (o : Int) + (j : Int) - 1 - (j : Int) := by omega
      have hbl := HX.out.2
      rw [Nat.sub_self, Nat.add_zero, List.drop_zero] at hbl
      have hbz := HB.out.2.2.turn HX.out.1 (by have := HR.out; omega)
      have h8 : (spl D o (be j n)).length = 128 := by rw [spl_len (by rw [be_len]; omega), hd]
      have hb' : Below g w wr := HB.out.1.trans (HX.out.1.below (by have := HB.out.1.size; omega) fun k e => by omega)
      obtain ⟨E, hE⟩ : ∃ E, E = spl D o (be j n) := ⟨_, rfl⟩
      rw [← hE] at h8 hbl
      have HEq := Lib.hid hE
      clear hE
      have hs8 := Ta.sec_size h8
      have hi : (Try.prog.info? tSec).map (·.size) = some (sec E).size := by rw [hs8]; exact Ta.info_sec
      have hst := Ta.store_row wr R (sec nul) E (by rw [hs8]; rfl) hbz
      have hrow := setRow_heap wr R _ (sec E) _ _ hbz
      have hbf := below_setRow hb' (g := R) (by have := HR.out; omega) (sec E)
      have HE := Lib.hid (And.intro hbf (And.intro hrow hi))
      have HK := Lib.hid hbl
      clear hb' hbf hrow hi hbl hbz
      go_wp2_with (refine wpList_load_mid rfl tSec (.tmp 4) rfl g 0 rfl (Lib.byteCells E) _ HK.out.range Try.underlying64 rfl (by rw [show (Lib.byteCells E).length = (sec E).size by simp [sec]]; exact HE.out.2.2) ?_; rw [show (Lib.byteCells E).toArray = sec E from rfl])
      exact bodyPost_ret (v := .agg (sec E)) (results_cell_row (p := 8) (ty := tSec) (by kernel_rfl) _ _ R tSec _ (0, 0) _ rfl HE.out.2.1 Try.underlying64 rfl HE.out.2.2) rfl ⟨by rw [HEq.out], by first | exact HE.out.1 | (have := HE.out.1; rwa [← hg] at this)⟩
set_option maxHeartbeats 4000000 in
set_option maxRecDepth 100000 in
theorem dgt_any (D : List UInt8) (o m : Nat) (hd : D.length = 128) (ho : o + m ≤ 128) (hm : m ≤ 6) (w : World) :
    Calls Try.prog 47 #[.agg (sec D), .int .i64 (o : Int), .int .i64 (m : Int)] w fun e x => e = .returned (.int .i64 (num ((D.drop o).take m) : Nat)) ∧ Below w.heap.size w x := by
  have hz := Ta.zero_sec
  have hnl : nul.length = 128 := rfl
  have hsz := @Ta.sec_size
  go_enter Try.func47, Try.ntmps47
  go_upto_region 1 with fail
  obtain ⟨X, hX⟩ : ∃ X, X = w.alloc (.cells (sec D) tSec) := ⟨_, rfl⟩
  rw [← hX]
  have HB := Lib.hid (show Below w.heap.size w X ∧ Blk X w.heap.size tSec D from by
    rw [hX]
    exact ⟨(Below.refl w.heap.size w).alloc (Nat.le_refl _) _, heap_alloc_new w _⟩)
  clear hX hz hsz
  generalize hg : w.heap.size = g at *
  go_wp2_with fail
  go_loopw [7, 8] (fun n' i x => ∃ j : Nat, j ≤ m ∧ n' = .int .i64 (num (((D.drop o).take m).take j) : Nat) ∧ i = .int .i64 ((o + j : Nat) : Int) ∧ x = X) (fun _ i _ => (o + m) - (intOf i).toNat)
  case atStart => exact ⟨0, by omega, rfl, rfl, rfl⟩
  case round =>
    obtain ⟨j, hj, rfl, rfl, rfl⟩ := hrel
    by_cases hlt : j < m
    · have hll : ((D.drop o).take m).length = m := by simp; omega
      have hc := HB.out.2.cell (j := o + j) (by omega)
      have hnt := num_take (l := (D.drop o).take m) (j := j) (by omega)
      have hel : ((D.drop o).take m)[j]'(by omega) = D[o + j]'(by omega) := by simp
      rw [hel] at hnt
      have hnl := num_lt_take ((D.drop o).take m) j (by omega)
      have hpw : (256 : Nat) ^ j ≤ 256 ^ 5 := Nat.pow_le_pow_right (by omega) (by omega)
      have hu : (D[o + j]'(by omega)).toNat < 256 := UInt8.toNat_lt _
      have hN : num (((D.drop o).take m).take j) < 1099511627776 := by
        have : (256 : Nat) ^ 5 = 1099511627776 := by decide
        omega
      have hlt' : ((o + j : Nat) : Int) < (o : Int) + (m : Int) := by omega
      have HN := Lib.hid hnt
      have hlo : o + j < 128 := by omega
      clear hnt hel hnl hpw
      generalize num (((D.drop o).take m).take j) = N at *
      generalize (D[o + j]'(by omega)).toNat = u at *
      go_wp2_with fail
      go_roundw
      case rel => exact ⟨j + 1, by omega, congrArg (Value.int .i64) (by rw [HN.out]; omega), congrArg (Value.int .i64) (by omega), trivial⟩
      case measure => simp [intOf]; omega
    · obtain rfl : j = m := by omega
      have hlt' : ¬ ((o + j : Nat) : Int) < (o : Int) + (j : Int) := by omega
      rw [List.take_take, Nat.min_self]
      go_wp2_with fail
      go_ret
      exact ⟨rfl, by first | exact HB.out.1 | (have := HB.out.1; rwa [← hg] at this)⟩
end Sp
end Go.Proofs.Ytdodmjcbjknneaa
