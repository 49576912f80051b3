/-
  Layer 13's document: its put and get.
  Layer 13: the document's Sum.
  Layer 13's document: its Sector.
-/
import Derived.Test.YtkfmmdiflbnhgaaSgpA
import Derived.Test.YtkfmmdiflbnhgaaInA
namespace Go.Proofs.Ytkfmmdiflbnhgaa
set_option maxRecDepth 100000
open Go.RowKit
open Knot (Turns)
open Ta (IsBytes sec nul tSec)
namespace Sp
theorem nul_len : nul.length = 128 := rfl
/-- A block of 128 bytes, out of and into which a whole array goes. -/
theorem Blk.range {w : World} {g : Nat} {T : TypeId} {D : List UInt8} (h : Blk w g T D) : w.rangeAt g 0 (Lib.byteCells D) := fun j v hj => by
  rw [Nat.zero_add, Lib.cell_of_heap h]
  simpa [sec] using hj
/-- A whole array goes out of its block, and into it. -/
theorem wl_load {ops : Array Oper} {rest : List Oper} {op : Oper} {a : Go.Act} {w : World} {Q : Exit → Go.Act → World → Prop} (hgd : op.guard = none) (x : Operand) (ho : op.op = .load tSec x) {g : Nat} (hx : a.eval x = .pointer (some ⟨g, 0, none⟩)) {D : List UInt8} (h : Blk w g tSec D) (hd : D.length = 128)
    (hK : wpList Try.prog ops Q rest (a.put op.dst (.agg (sec D))) w) : wpList Try.prog ops Q (op :: rest) a w :=
  wpList_load_row hgd tSec x ho g hx tSec (sec D) (0, 0) _ h Try.underlying64 rfl (by rw [Ta.sec_size hd]; exact Ta.info_sec) hK
theorem wl_store {ops : Array Oper} {rest : List Oper} {op : Oper} {a : Go.Act} {w : World} {Q : Exit → Go.Act → World → Prop} (hgd : op.guard = none) (x y : Operand) (ho : op.op = .store tSec x y) {g : Nat} (hx : a.eval x = .pointer (some ⟨g, 0, none⟩)) {E : List UInt8} (hy : a.eval y = .agg (sec E)) {D : List UInt8} (h : Blk w g tSec D) (hd : D.length = 128) (he : E.length = 128)
    (hK : wpList Try.prog ops Q rest (a.put op.dst undef) (w.setRow g (sec E))) : wpList Try.prog ops Q (op :: rest) a w :=
  wpList_store_row hgd tSec x y ho g (sec E) hx hy tSec (sec D) h (by rw [Ta.sec_size he]; exact Ta.info_sec) (by rw [Ta.sec_size hd, Ta.sec_size he]) (Ta.sec_one E) hK
theorem Blk.row {w : World} {g : Nat} {T : TypeId} {D : List UInt8} (h : Blk w g T D) (E : List UInt8) : Blk (w.setRow g (sec E)) g T E := setRow_heap w g _ _ _ _ h
theorem turn_row (w : World) (g : Nat) (c : Array Value) : Turns (fun k => k = g) w (w.setRow g c) := ⟨rfl, rfl, rfl, by simp [World.setRow], fun k _ hk => setRow_other w g k _ hk⟩
theorem spl_one (D : List UInt8) (o : Nat) (u : UInt8) (h : o < D.length) : spl D o [u] = D.set o u := by
  rw [spl, List.length_singleton, List.set_eq_take_append_cons_drop, if_pos h]
  rfl
set_option maxHeartbeats 4000000 in
set_option maxRecDepth 100000 in
theorem dpb_any (D : List UInt8) (o m n : Nat) (hd : D.length = 128) (ho : o + m ≤ 128) (hm : m ≤ 6) (hn : n < 9223372036854775808) (w : World) :
    Calls Try.prog 82 #[.agg (sec D), .int .i64 (o : Int), .int .i64 (m : Int), .int .i64 (n : Int)] w fun e x => e = .returned (.agg (sec (spl D o (be m n)))) ∧ Below w.heap.size w x := by
  have hz := Ta.zero_sec
  have hnl : nul.length = 128 := rfl
  have hsz := @Ta.sec_size
  go_enter Try.func82, Try.ntmps82
  go_upto_region 1 with fail
  obtain ⟨X, hX⟩ : ∃ X, X = (w.alloc (.cells (sec D) tSec)).alloc (.cells (sec nul) tSec) := ⟨_, rfl⟩
  rw [← hX]
  have b1 := (Below.refl (w.alloc (.cells (sec D) tSec)).heap.size (w.alloc (.cells (sec D) tSec))).alloc (Nat.le_refl _) (.cells (sec nul) tSec)
  have b0 : Below w.heap.size w (w.alloc (.cells (sec D) tSec)) := (Below.refl w.heap.size w).alloc (Nat.le_refl _) (.cells (sec D) tSec)
  have hs1 : (w.alloc (.cells (sec D) tSec)).heap.size = w.heap.size + 1 := by simp
  have i2 := heap_alloc_new (w.alloc (.cells (sec D) tSec)) (.cells (sec nul) tSec)
  rw [hs1] at i2
  have HB := Lib.hid (show Below w.heap.size w X ∧ Blk X w.heap.size tSec D ∧ Blk X (w.heap.size + 1) tSec nul from by
    rw [hX]
    exact ⟨b0.trans (b1.mono (by omega)), Blk.on (heap_alloc_new w _) b1, i2⟩)
  clear hX b0 b1 i2 hs1 hz hsz
  generalize hg : w.heap.size = g at *
  generalize hR : g + 1 = R at *
  have HR := Lib.hid (show g < R by omega)
  clear hR
  go_wp2_with fail
  go_loopw [3, 9] (fun n' i x => ∃ j : Nat, j ≤ m ∧ n' = .int .i64 ((n / 256 ^ j : Nat) : Int) ∧ i = .int .i64 ((o : Int) + (m : Int) - 1 - (j : Int)) ∧ Hid (Turns (fun k => k = g) X x ∧ Blk x g tSec (spl D (o + (m - j)) ((be m n).drop (m - j))))) (fun _ i _ => (intOf i - (o : Int) + 1).toNat)
  case atStart => exact ⟨0, by omega, by simp, by simp, Turns.refl _ _, by rw [Nat.sub_zero, List.drop_eq_nil_of_le (by rw [be_len]; omega), spl_nil]; exact HB.out.2.1⟩
  case round =>
    obtain ⟨j, hj, rfl, rfl, HX⟩ := hrel
    by_cases hlt : j < m
    · have hbl : (be m n).length = m := be_len _ _
      have hsl : (spl D (o + (m - j)) ((be m n).drop (m - j))).length = 128 := by rw [spl_len (by simp [hbl, hd]; omega), hd]
      have hf := HX.out.2.free (o + (m - 1 - j))
      have hc := HX.out.2.cell (j := o + (m - 1 - j)) (by omega)
      have hv : ((n / 256 ^ j : Nat) : Int) % 256 = (((be m n)[m - 1 - j]'(by omega)).toNat : Nat) := by
        rw [be_at, UInt8.toNat_ofNat', show m - 1 - (m - 1 - j) = j by omega]
        simp
      have hn2 : n / 256 ^ (j + 1) = n / 256 ^ j / 256 := by rw [Nat.pow_succ, Nat.div_div_eq_div_mul]
      have hnl2 : n / 256 ^ j < 9223372036854775808 := Nat.lt_of_le_of_lt (Nat.div_le_self _ _) hn
      have hn' := HX.out.2.set (o + (m - 1 - j)) ((be m n)[m - 1 - j]'(by omega))
      rw [show m - j = (m - 1 - j) + 1 by omega, ← Nat.add_assoc, ← part_set (D := D) (c := be m n) (o := o) (i := m - 1 - j) (by omega) (by omega)] at hn'
      have HV := Lib.hid (And.intro hv (And.intro hn' hn2))
      have ht := HX.out.1.setCell (p := ⟨g, o + (m - 1 - j), none⟩) rfl (.int .u8 (((be m n)[m - 1 - j]'(by omega)).toNat : Nat))
      have HT := Lib.hid ht
      have hlo : o + (m - 1 - j) < 128 := by omega
      have hge : (o : Int) ≤ ((o + (m - 1 - j) : Nat) : Int) := by omega
      clear hv hn' ht hn2
      have hix : (o : Int) + (m : Int) - 1 - (j : Int) = ((o + (m - 1 - j) : Nat) : Int) := by omega
      rw [hix]
      clear hix
      generalize n / 256 ^ j = N at *
      generalize ((be m n)[m - 1 - j]'(by omega)) = u at *
      generalize (spl D (o + (m - j)) ((be m n).drop (m - j)))[o + (m - 1 - j)].toNat = u0 at *
      generalize hI : o + (m - 1 - j) = I at *
      go_wp2_with fail
      go_roundw
      case rel =>
        rw [HV.out.1]
        refine ⟨j + 1, by omega, congrArg (Value.int .i64) (by rw [HV.out.2.2]; omega), congrArg (Value.int .i64) (by omega), HT.out, ?_⟩
        rw [show m - (j + 1) = m - 1 - j by omega]
        have := HV.out.2.1
        rw [← hI]; rw [← hI] at this; exact this
      case measure => simp [intOf]; omega
    · obtain rfl : j = m := by omega
      have hge : ¬ (o : Int) ≤ (o : Int) + (j : Int) - 1 - (j : Int) := by omega
      have hbl := HX.out.2
      rw [Nat.sub_self, Nat.add_zero, List.drop_zero] at hbl
      have hbz := HB.out.2.2.turn HX.out.1 (by have := HR.out; omega)
      have h8 : (spl D o (be j n)).length = 128 := by rw [spl_len (by rw [be_len]; omega), hd]
      have hb' : Below g w wr := HB.out.1.trans (HX.out.1.below (by have := HB.out.1.size; omega) fun k e => by omega)
      obtain ⟨E, hE⟩ : ∃ E, E = spl D o (be j n) := ⟨_, rfl⟩
      rw [← hE] at h8 hbl
      have HEq := Lib.hid hE
      clear hE
      have hs8 := Ta.sec_size h8
      have hi : (Try.prog.info? tSec).map (·.size) = some (sec E).size := by rw [hs8]; exact Ta.info_sec
      have hst := Ta.store_row wr R (sec nul) E (by rw [hs8]; rfl) hbz
      have hrow := setRow_heap wr R _ (sec E) _ _ hbz
      have hbf := below_setRow hb' (g := R) (by have := HR.out; omega) (sec E)
      have HE := Lib.hid (And.intro hbf (And.intro hrow hi))
      have HK := Lib.hid hbl
      clear hb' hbf hrow hi hbl hbz
      go_wp2_with (refine wpList_load_mid rfl tSec (.tmp 4) rfl g 0 rfl (Lib.byteCells E) _ HK.out.range Try.underlying64 rfl (by rw [show (Lib.byteCells E).length = (sec E).size by simp [sec]]; exact HE.out.2.2) ?_; rw [show (Lib.byteCells E).toArray = sec E from rfl])
      exact bodyPost_ret (v := .agg (sec E)) (results_cell_row (p := 8) (ty := tSec) (by kernel_rfl) _ _ R tSec _ (0, 0) _ rfl HE.out.2.1 Try.underlying64 rfl HE.out.2.2) rfl ⟨by rw [HEq.out], by first | exact HE.out.1 | (have := HE.out.1; rwa [← hg] at this)⟩
set_option maxHeartbeats 4000000 in
set_option maxRecDepth 100000 in
theorem dgt_any (D : List UInt8) (o m : Nat) (hd : D.length = 128) (ho : o + m ≤ 128) (hm : m ≤ 6) (w : World) :
    Calls Try.prog 78 #[.agg (sec D), .int .i64 (o : Int), .int .i64 (m : Int)] w fun e x => e = .returned (.int .i64 (num ((D.drop o).take m) : Nat)) ∧ Below w.heap.size w x := by
  have hz := Ta.zero_sec
  have hnl : nul.length = 128 := rfl
  have hsz := @Ta.sec_size
  go_enter Try.func78, Try.ntmps78
  go_upto_region 1 with fail
  obtain ⟨X, hX⟩ : ∃ X, X = w.alloc (.cells (sec D) tSec) := ⟨_, rfl⟩
  rw [← hX]
  have HB := Lib.hid (show Below w.heap.size w X ∧ Blk X w.heap.size tSec D from by
    rw [hX]
    exact ⟨(Below.refl w.heap.size w).alloc (Nat.le_refl _) _, heap_alloc_new w _⟩)
  clear hX hz hsz
  generalize hg : w.heap.size = g at *
  go_wp2_with fail
  go_loopw [7, 8] (fun n' i x => ∃ j : Nat, j ≤ m ∧ n' = .int .i64 (num (((D.drop o).take m).take j) : Nat) ∧ i = .int .i64 ((o + j : Nat) : Int) ∧ x = X) (fun _ i _ => (o + m) - (intOf i).toNat)
  case atStart => exact ⟨0, by omega, rfl, rfl, rfl⟩
  case round =>
    obtain ⟨j, hj, rfl, rfl, rfl⟩ := hrel
    by_cases hlt : j < m
    · have hll : ((D.drop o).take m).length = m := by simp; omega
      have hc := HB.out.2.cell (j := o + j) (by omega)
      have hnt := num_take (l := (D.drop o).take m) (j := j) (by omega)
      have hel : ((D.drop o).take m)[j]'(by omega) = D[o + j]'(by omega) := by simp
      rw [hel] at hnt
      have hnl := num_lt_take ((D.drop o).take m) j (by omega)
      have hpw : (256 : Nat) ^ j ≤ 256 ^ 5 := Nat.pow_le_pow_right (by omega) (by omega)
      have hu : (D[o + j]'(by omega)).toNat < 256 := UInt8.toNat_lt _
      have hN : num (((D.drop o).take m).take j) < 1099511627776 := by
        have : (256 : Nat) ^ 5 = 1099511627776 := by decide
        omega
      have hlt' : ((o + j : Nat) : Int) < (o : Int) + (m : Int) := by omega
      have HN := Lib.hid hnt
      have hlo : o + j < 128 := by omega
      clear hnt hel hnl hpw
      generalize num (((D.drop o).take m).take j) = N at *
      generalize (D[o + j]'(by omega)).toNat = u at *
      go_wp2_with fail
      go_roundw
      case rel => exact ⟨j + 1, by omega, congrArg (Value.int .i64) (by rw [HN.out]; omega), congrArg (Value.int .i64) (by omega), trivial⟩
      case measure => simp [intOf]; omega
    · obtain rfl : j = m := by omega
      have hlt' : ¬ ((o + j : Nat) : Int) < (o : Int) + (j : Int) := by omega
      rw [List.take_take, Nat.min_self]
      go_wp2_with fail
      go_ret
      exact ⟨rfl, by first | exact HB.out.1 | (have := HB.out.1; rwa [← hg] at this)⟩
end Sp
end Go.Proofs.Ytkfmmdiflbnhgaa

namespace Go.Proofs.Ytkfmmdiflbnhgaa
set_option maxRecDepth 100000
open Go.RowKit
open Ta (IsBytes)
namespace Sp
theorem xor_bit (A B j : Nat) : (A ^^^ B) / 2 ^ j % 2 = if A / 2 ^ j % 2 = B / 2 ^ j % 2 then 0 else 1 := by
  have h := Nat.testBit_xor A B j
  rw [Nat.testBit_eq_decide_div_mod_eq, Nat.testBit_eq_decide_div_mod_eq, Nat.testBit_eq_decide_div_mod_eq] at h
  generalize A / 2 ^ j = x at *
  generalize B / 2 ^ j = y at *
  generalize (A ^^^ B) / 2 ^ j = z at *
  have hx : x % 2 = 0 ∨ x % 2 = 1 := by omega
  have hy : y % 2 = 0 ∨ y % 2 = 1 := by omega
  have hz : z % 2 = 0 ∨ z % 2 = 1 := by omega
  rcases hx with hx | hx <;> rcases hy with hy | hy <;> rcases hz with hz | hz <;> simp [hx, hy, hz] at h ⊢
theorem xor_next (A B j : Nat) : (A ^^^ B) % 2 ^ (j + 1) = (A ^^^ B) % 2 ^ j + (if A / 2 ^ j % 2 = B / 2 ^ j % 2 then 0 else 2 ^ j) := by
  have e : (A ^^^ B) % 2 ^ (j + 1) = (A ^^^ B) % 2 ^ j + 2 ^ j * ((A ^^^ B) / 2 ^ j % 2) := by rw [Nat.pow_succ, Nat.mod_mul]
  rw [e, xor_bit]
  split <;> simp
set_option maxHeartbeats 4000000 in
set_option maxRecDepth 100000 in
theorem turned_any (A B : Nat) (hA : A < 4294967296) (hB : B < 4294967296) (w : World) : Calls Try.prog 49 #[.int .u64 (A : Int), .int .u64 (B : Int)] w fun e x => e = .returned (.int .u64 ((A ^^^ B : Nat) : Int)) ∧ x = w := by
  go_enter Try.func49, Try.ntmps49
  go_wp2_with fail
  go_loopw [0, 1, 5, 6, 7] (fun a b o p i x => ∃ j : Nat, j ≤ 32 ∧ i = .int .i64 (j : Int) ∧ a = .int .u64 ((A / 2 ^ j : Nat) : Int) ∧ b = .int .u64 ((B / 2 ^ j : Nat) : Int) ∧ o = .int .u64 (((A ^^^ B) % 2 ^ j : Nat) : Int) ∧ p = .int .u64 ((2 ^ j : Nat) : Int) ∧ x = w) (fun _ _ _ _ i _ => 32 - (intOf i).toNat)
  case atStart => exact ⟨0, by omega, rfl, by simp, by simp, by simp [Nat.mod_one], rfl, rfl⟩
  case round =>
    obtain ⟨j, hj, rfl, rfl, rfl, rfl, rfl, rfl⟩ := hrel
    by_cases hlt : j < 32
    · have hnx := xor_next A B j
      have ha : A / 2 ^ j / 2 = A / 2 ^ (j + 1) := by rw [Nat.div_div_eq_div_mul, Nat.pow_succ]
      have hb : B / 2 ^ j / 2 = B / 2 ^ (j + 1) := by rw [Nat.div_div_eq_div_mul, Nat.pow_succ]
      have hp : 2 ^ j * 2 = 2 ^ (j + 1) := (Nat.pow_succ 2 j).symm
      have hpl : 2 ^ j ≤ 2147483648 := Nat.pow_le_pow_right (n := 2) (i := j) (j := 31) (by omega) (by omega)
      have hol : (A ^^^ B) % 2 ^ j < 2 ^ j := Nat.mod_lt _ (Nat.two_pow_pos j)
      have hal : A / 2 ^ j < 4294967296 := Nat.lt_of_le_of_lt (Nat.div_le_self _ _) hA
      have hbl : B / 2 ^ j < 4294967296 := Nat.lt_of_le_of_lt (Nat.div_le_self _ _) hB
      have HE := Lib.hid (And.intro ha (And.intro hb (And.intro hp hnx)))
      clear ha hb hp hnx
      generalize A / 2 ^ j = a at *
      generalize B / 2 ^ j = b at *
      generalize (A ^^^ B) % 2 ^ j = o at *
      generalize 2 ^ j = p at *
      by_cases h : a % 2 = b % 2
      · have e1 : ((a : Int) % 2 != (b : Int) % 2) = false := by rw [bne_eq_false_iff_eq]; omega
        have hx : (A ^^^ B) % 2 ^ (j + 1) = o := by rw [HE.out.2.2.2]; simp [h]
        have HX := Lib.hid hx
        clear hx h
        go_wp2_with fail
        go_roundw
        case rel => exact ⟨j + 1, by omega, by go_num, congrArg (Value.int .u64) (by have := HE.out.1; omega), congrArg (Value.int .u64) (by have := HE.out.2.1; omega), congrArg (Value.int .u64) (by have := HX.out; omega), congrArg (Value.int .u64) (by have := HE.out.2.2.1; omega), trivial⟩
        case measure => simp [intOf]; omega
      · have e1 : ((a : Int) % 2 != (b : Int) % 2) = true := by rw [bne_iff_ne, ne_eq]; omega
        have hx : (A ^^^ B) % 2 ^ (j + 1) = o + p := by rw [HE.out.2.2.2]; simp [h]
        have HX := Lib.hid hx
        clear hx h
        go_wp2_with fail
        go_roundw
        case rel => exact ⟨j + 1, by omega, by go_num, congrArg (Value.int .u64) (by have := HE.out.1; omega), congrArg (Value.int .u64) (by have := HE.out.2.1; omega), congrArg (Value.int .u64) (by have := HX.out; omega), congrArg (Value.int .u64) (by have := HE.out.2.2.1; omega), trivial⟩
        case measure => simp [intOf]; omega
    · obtain rfl : j = 32 := by omega
      have hx : (A ^^^ B) % 2 ^ 32 = A ^^^ B := Nat.mod_eq_of_lt (Nat.xor_lt_two_pow (n := 32) (by omega) (by omega))
      rw [hx]
      go_wp2_with fail
      go_ret
      exact ⟨rfl, rfl⟩
/-- What of a byte is left behind its first bits. -/
theorem shl_bit (B k : Nat) (hk : k < 8) (hB : B < 256) : (B * 2 ^ k % 256) / 128 = B / 2 ^ (7 - k) % 2 ∧ B * 2 ^ k % 256 * 2 % 256 = B * 2 ^ (k + 1) % 256 := by
  have hk' : k = 0 ∨ k = 1 ∨ k = 2 ∨ k = 3 ∨ k = 4 ∨ k = 5 ∨ k = 6 ∨ k = 7 := by omega
  rcases hk' with rfl | rfl | rfl | rfl | rfl | rfl | rfl | rfl <;> constructor <;> omega
set_option maxHeartbeats 4000000 in
set_option maxRecDepth 100000 in
theorem dsum_any (v : Value) (l : List UInt8) (w : World) (h : IsBytes w v l) : Calls Try.prog 16 #[v] w fun e x => e = .returned (.int .u32 (crc l : Nat)) ∧ x = w := by
  have H := Lib.hid h
  have HT := Lib.hid (fun A hA x => turned_any A 79764919 hA (by omega) x)
  obtain ⟨ao, cap, rfl, h1, h2, -⟩ := h
  have hbig : l.length ≤ 9223372036854775807 := by unfold maxLen at h2; omega
  clear h1 h2
  go_enter Try.func16, Try.ntmps16
  go_wp2_with fail
  go_loopw [3, 11] (fun c i x => ∃ j : Nat, j ≤ l.length ∧ i = .int .i64 (j : Int) ∧ c = .int .u64 (crc (l.take j) : Nat) ∧ x = w) (fun _ i _ => l.length - (intOf i).toNat)
  case atStart => exact ⟨0, by omega, rfl, rfl, rfl⟩
  case round =>
    obtain ⟨j, hj, rfl, rfl, rfl⟩ := hrel
    by_cases hlt : j < l.length
    · obtain ⟨g, q, hix, hc⟩ := Ta.byte_at H.out hlt
      have hl := crc_lt (l.take j)
      have HTk := Lib.hid (crc_take hlt)
      have hb : l[j].toNat < 256 := l[j].toNat_lt
      generalize crc (l.take j) = C at *
      generalize l[j].toNat = B at *
      go_wp2_with fail
      go_loopw [3, 5, 6] (fun c b i x => ∃ k : Nat, k ≤ 8 ∧ i = .int .i64 (k : Int) ∧ c = .int .u64 (bits C B k : Nat) ∧ b = .int .i64 ((B * 2 ^ k % 256 : Nat) : Int) ∧ x = wr) (fun _ _ i _ => 8 - (intOf i).toNat)
      case atStart => exact ⟨0, by omega, rfl, rfl, by simp; omega, rfl⟩
      case round =>
        obtain ⟨k, hk, rfl, rfl, rfl, rfl⟩ := hrel
        by_cases hk8 : k < 8
        · have hcl := bits_lt hl B k
          have hs : bits C B (k + 1) = bit (bits C B k) (B / 2 ^ (7 - k) % 2) := rfl
          obtain ⟨hsb1, hsb2⟩ := shl_bit B k hk8 hb
          have hxl : B * 2 ^ k % 256 < 256 := Nat.mod_lt _ (by omega)
          rw [← hsb1] at hs
          generalize bits C B k = D at *
          generalize B * 2 ^ k % 256 = x at *
          clear hsb1
          have HX := Lib.hid (And.intro hs hsb2)
          clear hs hsb2
          have hx2 : bit D (x / 128) = if D / 2147483648 = x / 128 then D * 2 % 4294967296 else (D * 2 % 4294967296) ^^^ 79764919 := rfl
          by_cases hD : 2147483648 ≤ D
          · by_cases hx : 128 ≤ x
            · have d1 : decide ((2147483648 : Int) ≤ (D : Int)) = true := by simp; omega
              have d2 : decide ((128 : Int) ≤ (x : Int)) = true := by simp; omega
              rw [if_pos (by omega)] at hx2
              have HX2 := Lib.hid hx2
              clear hx2 hD hx
              go_wp2_with fail
              go_roundw
              case rel => exact ⟨k + 1, by omega, by go_num, congrArg (Value.int .u64) (by have := HX.out.1; have := HX2.out; omega), congrArg (Value.int .i64) (by have := HX.out.2; omega), trivial⟩
              case measure => simp [intOf]; omega
            · have d1 : decide ((2147483648 : Int) ≤ (D : Int)) = true := by simp; omega
              have d2 : decide ((128 : Int) ≤ (x : Int)) = false := by simp; omega
              rw [if_neg (by omega)] at hx2
              have HX2 := Lib.hid hx2
              have HTd := Lib.hid (HT.out (D * 2 % 4294967296) (by omega) wr)
              have hdd : ((D : Int) * 2 % 4294967296) = ((D * 2 % 4294967296 : Nat) : Int) := by omega
              rw [← hdd, show ((79764919 : Nat) : Int) = 79764919 from rfl] at HTd
              clear hx2 hdd hD hx
              go_wp2_with fail
              refine HTd.out.mono ?_
              rintro e z ⟨rfl, hz⟩
              rw [hz]
              clear hz z
              go_wp2_with fail
              go_roundw
              case rel => exact ⟨k + 1, by omega, by go_num, congrArg (Value.int .u64) (by have := HX.out.1; have := HX2.out; omega), congrArg (Value.int .i64) (by have := HX.out.2; omega), trivial⟩
              case measure => simp [intOf]; omega
          · by_cases hx : 128 ≤ x
            · have d1 : decide ((2147483648 : Int) ≤ (D : Int)) = false := by simp; omega
              have d2 : decide ((128 : Int) ≤ (x : Int)) = true := by simp; omega
              rw [if_neg (by omega)] at hx2
              have HX2 := Lib.hid hx2
              have HTd := Lib.hid (HT.out (D * 2 % 4294967296) (by omega) wr)
              have hdd : ((D : Int) * 2 % 4294967296) = ((D * 2 % 4294967296 : Nat) : Int) := by omega
              rw [← hdd, show ((79764919 : Nat) : Int) = 79764919 from rfl] at HTd
              clear hx2 hdd hD hx
              go_wp2_with fail
              refine HTd.out.mono ?_
              rintro e z ⟨rfl, hz⟩
              rw [hz]
              clear hz z
              go_wp2_with fail
              go_roundw
              case rel => exact ⟨k + 1, by omega, by go_num, congrArg (Value.int .u64) (by have := HX.out.1; have := HX2.out; omega), congrArg (Value.int .i64) (by have := HX.out.2; omega), trivial⟩
              case measure => simp [intOf]; omega
            · have d1 : decide ((2147483648 : Int) ≤ (D : Int)) = false := by simp; omega
              have d2 : decide ((128 : Int) ≤ (x : Int)) = false := by simp; omega
              rw [if_pos (by omega)] at hx2
              have HX2 := Lib.hid hx2
              clear hx2 hD hx
              go_wp2_with fail
              go_roundw
              case rel => exact ⟨k + 1, by omega, by go_num, congrArg (Value.int .u64) (by have := HX.out.1; have := HX2.out; omega), congrArg (Value.int .i64) (by have := HX.out.2; omega), trivial⟩
              case measure => simp [intOf]; omega
        · obtain rfl : k = 8 := by omega
          go_wp2_with fail
          go_roundw
          case rel => exact ⟨j + 1, by omega, by go_num, by rw [HTk.out], trivial⟩
          case measure => simp [intOf]; omega
    · obtain rfl : j = l.length := by omega
      rw [List.take_length]
      have hcm : ((crc l : Nat) : Int) % 4294967296 = (crc l : Nat) := by have := crc_lt l; omega
      generalize hC : crc l = C at *
      have HCq := Lib.hid hC
      clear hC
      go_wp2_with fail
      go_ret
      exact ⟨by rw [HCq.out]; rfl, rfl⟩
end Sp
end Go.Proofs.Ytkfmmdiflbnhgaa

namespace Go.Proofs.Ytkfmmdiflbnhgaa
set_option maxRecDepth 100000
open Go.RowKit
open Knot (Turns)
open Ta (IsBytes sec nul tSec)
namespace Sp
theorem fil_set {l : List UInt8} (u : UInt8) (h : l.length < 128) : (fil l).set l.length u = fil (l ++ [u]) := by
  rw [← spl_one (fil l) l.length u (by rw [fil_len (by omega)]; omega), spl_fil rfl]
/-- Two blocks of 128 bytes: the one that is told, the one that is filled. -/
structure Bb (w x : World) (R g : Nat) (D : List UInt8) : Prop where
  below : Below w.heap.size w x
  res : Blk x R tSec nul
  own : Blk x g tSec D
  low : w.heap.size ≤ R ∧ R < g
section
variable {w x y : World} {R g : Nat} {D : List UInt8}
theorem Bb.on (h : Bb w x R g D) (hb : Below x.heap.size x y) : Bb w y R g D := ⟨h.below.trans (hb.mono h.below.size), h.res.on hb, h.own.on hb, h.low⟩
theorem Bb.set (h : Bb w x R g D) (j : Nat) (u : UInt8) : Bb w (x.setCell ⟨g, j, none⟩ (.int .u8 (u.toNat : Nat))) R g (D.set j u) := by
  have ht : Turns (fun k => k = g) x (x.setCell ⟨g, j, none⟩ (.int .u8 (u.toNat : Nat))) := (Turns.refl (fun k => k = g) x).setCell (p := ⟨g, j, none⟩) rfl _
  have := h.low
  exact ⟨h.below.trans (ht.below h.below.size fun k e => by omega), h.res.turn ht (by omega), h.own.set j u, h.low⟩
theorem Bb.row (h : Bb w x R g D) (E : List UInt8) : Bb w (x.setRow g (sec E)) R g E := by
  have ht := turn_row x g (sec E)
  have := h.low
  exact ⟨h.below.trans (ht.below h.below.size fun k e => by omega), h.res.turn ht (by omega), h.own.row E, h.low⟩
end
set_option maxHeartbeats 8000000 in
set_option maxRecDepth 100000 in
theorem dsec_any (e n p o : Nat) (v : Value) (own : List UInt8) (w : World) (hv : IsBytes w v own) (hl : own.length ≤ 108) (he : e < 9223372036854775808) (hn : n < 9223372036854775808) (hp : p < 9223372036854775808) (ho : o < 9223372036854775808) :
    Calls Try.prog 56 #[.int .i64 (e : Int), .int .i64 (n : Int), .int .i64 (p : Int), .int .i64 (o : Int), v] w fun r x => r = .returned (.agg (sec (secB e n p o own))) ∧ Below w.heap.size w x := by
  have HV := Lib.hid hv
  obtain ⟨ao, cap, rfl, -, -, -⟩ := hv
  have HN := Lib.hid (And.intro hl (And.intro he (And.intro hn (And.intro hp ho))))
  clear he hn hp ho
  have hz := Ta.zero_sec
  have hnl : nul.length = 128 := rfl
  have hsz := @Ta.sec_size
  have hsc := fun W b hb => Ta.store_sec W b nul nul hb rfl rfl
  go_enter Try.func56, Try.ntmps56
  have hs0 : (sec nul).size = 128 := rfl
  go_upto_region 2 with fail
  clear hs0 hsc hz hsz
  obtain ⟨X, hX⟩ : ∃ X, X = (w.alloc (.cells (sec nul) tSec)).alloc (.cells (sec nul) tSec) := ⟨_, rfl⟩
  rw [← hX]
  have hX0 : Bb w X w.heap.size (w.heap.size + 1) nul := by
    rw [hX]
    have b1 := (Below.refl (w.alloc (.cells (sec nul) tSec)).heap.size (w.alloc (.cells (sec nul) tSec))).alloc (Nat.le_refl _) (.cells (sec nul) tSec)
    have i2 := heap_alloc_new (w.alloc (.cells (sec nul) tSec)) (.cells (sec nul) tSec)
    rw [show (w.alloc (.cells (sec nul) tSec)).heap.size = w.heap.size + 1 by simp] at i2
    exact ⟨((Below.refl _ _).alloc (Nat.le_refl _) _).alloc (by simp) _, Blk.on (heap_alloc_new w _) b1, i2, by omega⟩
  clear hX
  have hR : w.heap.size = w.heap.size := rfl
  revert hX0
  generalize w.heap.size + 1 = g
  generalize hR0 : w.heap.size = R
  clear hR
  intro hX0
  have q0 := hX0.own.cell (j := 0) (by decide)
  have f0 := hX0.own.free 0
  have H2 := Lib.hid (show Bb w (X.setCell ⟨g, 0, none⟩ (.int .u8 ((83 : UInt8).toNat : Nat))) R g (fil [83]) from by
    have := hX0.set 0 83
    rwa [show nul.set 0 83 = fil [83] from fil_start] at this)
  clear hX0
  go_upto_region 3 with fail
  clear q0 f0
  change Code.wp _ _ _ _ (X.setCell ⟨g, 0, none⟩ (.int .u8 ((83 : UInt8).toNat : Nat)))
  generalize X.setCell ⟨g, 0, none⟩ (.int .u8 ((83 : UInt8).toNat : Nat)) = Y2 at *
  have HP1 := Lib.hid (fun x => dpb_any (fil [83]) 1 4 e (fil_len (by decide)) (by omega) (by omega) HN.out.2.1 x)
  have HP2 := Lib.hid (fun x => dpb_any (fil (h1 e)) 5 6 n (fil_len (by rw [h1_len]; omega)) (by omega) (by omega) HN.out.2.2.1 x)
  have HP3 := Lib.hid (fun x => dpb_any (fil (h2 e n)) 11 2 p (fil_len (by rw [h2_len]; omega)) (by omega) (by omega) HN.out.2.2.2.1 x)
  have HP4 := Lib.hid (fun x => dpb_any (fil (h3 e n p)) 13 2 o (fil_len (by rw [h3_len]; omega)) (by omega) (by omega) HN.out.2.2.2.2 x)
  rw [put1] at HP1
  rw [put2] at HP2
  rw [put3] at HP3
  rw [put4] at HP4
  go_wp2_with (refine wl_load rfl _ rfl rfl H2.out.own (fil_len (by decide)) ?_)
  refine (HP1.out Y2).mono ?_
  rintro r z1 ⟨rfl, hb1⟩
  have H3 := Lib.hid (H2.out.on hb1)
  clear hb1 H2
  go_wp2_with fail
  refine (HP2.out z1).mono ?_
  rintro r z2 ⟨rfl, hb1⟩
  have H4 := Lib.hid (H3.out.on hb1)
  clear hb1 H3
  go_wp2_with fail
  refine (HP3.out z2).mono ?_
  rintro r z3 ⟨rfl, hb1⟩
  have H5 := Lib.hid (H4.out.on hb1)
  clear hb1 H4
  go_wp2_with fail
  refine (HP4.out z3).mono ?_
  rintro r z4 ⟨rfl, hb1⟩
  have H6 := Lib.hid (H5.out.on hb1)
  clear hb1 H5 HP1 HP2 HP3 HP4
  go_upto_region 4 with (refine wl_store rfl _ _ rfl rfl rfl H6.out.own (fil_len (by decide)) (fil_len (by rw [h4_len]; omega)) ?_)
  have H7 := Lib.hid (H6.out.row (fil (h4 e n p o)))
  clear H6
  generalize z4.setRow g (sec (fil (h4 e n p o))) = Y4 at *
  have q0 := H7.out.own.cell (j := 15) (by rw [fil_len (by rw [h4_len]; omega)]; omega)
  have f0 := H7.out.own.free 15
  have hu : (((UInt8.ofNat own.length).toNat : Nat) : Int) = (own.length : Int) := by rw [UInt8.toNat_ofNat']; omega
  have H8 := Lib.hid (show Bb w (Y4.setCell ⟨g, 15, none⟩ (.int .u8 (own.length : Int))) R g (fil (h5 e n p o own)) from by
    have := H7.out.set 15 (UInt8.ofNat own.length)
    rwa [hu, ← h4_len (e := e) (n := n) (p := p) (o := o), fil_set _ (by rw [h4_len]; omega), h4_len] at this)
  clear H7
  clear hu
  go_upto_region 5 with fail
  clear q0 f0
  generalize Y4.setCell ⟨g, 15, none⟩ (.int .u8 (own.length : Int)) = Y5 at *
  go_wp2_with fail
  go_loopw [30] (fun i x => ∃ j : Nat, j ≤ own.length ∧ i = .int .i64 (j : Int) ∧ Hid (Bb w x R g (fil (h5 e n p o own ++ own.take j)))) (fun i _ => own.length - (intOf i).toNat)
  case atStart => exact ⟨0, by omega, rfl, by rw [List.take_zero, List.append_nil]; exact H8.out⟩
  case round =>
    obtain ⟨j, hj, rfl, HX⟩ := hrel
    by_cases hlt : j < own.length
    · obtain ⟨b, q, hix, hc⟩ := Ta.byte_at (HV.out.below HX.out.below) hlt
      have h5l : (h5 e n p o own ++ own.take j).length = 16 + j := by rw [List.length_append, h5_len, List.length_take]; omega
      obtain ⟨uu, q0⟩ : ∃ uu, wr.cell? ⟨g, 16 + j, none⟩ = some (.int .u8 uu) := ⟨_, HX.out.own.cell (j := 16 + j) (by rw [fil_len (by rw [h5l]; omega)]; omega)⟩
      have f0 := HX.out.own.free (16 + j)
      have HNx := Lib.hid (show Bb w (wr.setCell ⟨g, 16 + j, none⟩ (.int .u8 (own[j].toNat : Nat))) R g (fil (h5 e n p o own ++ own.take (j + 1))) from by
        have := HX.out.set (16 + j) own[j]
        rwa [← h5l, fil_set _ (by rw [h5l]; omega), List.append_assoc, ← List.take_succ_eq_append_getElem hlt, h5l] at this)
      have hbig : 16 + (j : Int) < 128 := by omega
      clear h5l
      generalize own[j] = u at *
      go_wp2_with fail
      go_roundw
      case rel => exact ⟨j + 1, by omega, by go_num, HNx.out⟩
      case measure => simp [intOf]; omega
    · obtain rfl : j = own.length := by omega
      have HS := Lib.hid (show Bb w wr R g (fil (h6 e n p o own)) from by
        have := HX.out
        rwa [List.take_length] at this)
      clear HX
      have HE := Lib.hid (fil_end (e := e) (n := n) (p := p) (o := o) (own := own) hl)
      have hcr := crc_lt (head e n p o own)
      have hbs := HS.out.own.bytes (o := 0) (m := 124) (cap := 128) (by rw [fil_len (by rw [h6_len]; omega)]; omega) (by omega) (by decide)
      rw [List.drop_zero, fil_take hl] at hbs
      have HQ := Lib.hid (dsum_any _ (head e n p o own) wr.drew (hbs.below (Below.refl _ wr).drew))
      have HC := Lib.hid (show crc (head e n p o own) = crc (head e n p o own) from rfl)
      generalize crc (head e n p o own) = C at *
      clear hbs HC
      have h6l : (fil (h6 e n p o own)).length = 128 := fil_len (by rw [h6_len]; omega)
      go_upto_region 10 with fail
      have HF := Lib.hid (show ∀ x, Turns (fun k => k = R) wr x → Blk x g tSec (fil (h6 e n p o own)) from fun x hx => HS.out.own.turn hx (by have := HS.out.low; omega))
      have hld : ∀ x, Turns (fun k => k = R) wr x → (Instr.loadAt tSec (.pointer (some ⟨g, 0, none⟩))).run Try.prog x = .ok (.agg (sec (fil (h6 e n p o own)))) x := fun x hx => by
        have := run_loadAt_mid (P := Try.prog) x g 0 tSec (Lib.byteCells (fil (h6 e n p o own))) _ (HF.out x hx).range Try.underlying64 rfl (by rw [Lib.byteCells_length, h6l]; exact Ta.info_sec)
        exact this
      refine Order.region_begin (S := Turns (fun k => k = R) wr.drew) (by kernel_rfl) ?_
      refine Order.reads_any (idx := [0, 1]) (by kernel_rfl) (Turns.refl _ _) (fun _ _ _ _ _ h => Order.noPanic_put h) 4 _ _ (by decide +kernel) ?_
      simp only [Order.pick, List.getElem?_toArray, List.getElem?_cons_zero, List.getElem?_cons_succ]
      repeat (first
        | (refine Order.reads_off (by rfl) ?_
           simp only [Act.put, List.setIfInBounds_toArray, List.set_cons_zero, List.set_cons_succ])
        | (apply Order.reads_on
           · rfl
           · intro x hx
             first
               | (have hld' := hld x (Turns.after_below (Below.refl _ _).drew hx)
                  exact Order.load_at rfl rfl (by assumption))
               | (go_simp; rfl)
               | (have hld' := hld x (Turns.after_below (Below.refl _ _).drew hx)
                  go_simp; rfl)
           simp only [Act.put, List.setIfInBounds_toArray, List.set_cons_zero, List.set_cons_succ]))
      refine Order.reads_end ?_
      apply Order.acts_any (R := (Turns (fun k => k = R))) (fun h k => h.trans k fun _ _ h => h) (i := 2)
      · rfl
      · decide +kernel
      · rfl
      unfold Oper.wp
      go_simp
      refine HQ.out.mono ?_
      rintro r1 Z ⟨rfl, hbz⟩
      subst hbz
      refine ⟨Turns.refl _ _, ?_⟩
      have hw : IntKind.i64.wrap (C : Int) = (C : Int) := by rw [IntKind.wrap_i64] <;> omega
      refine Order.reads_any (idx := [3]) (by kernel_rfl) (Turns.refl _ _) (fun _ _ _ _ _ h => Order.noPanic_put h) 2 _ _ (by decide +kernel) ?_
      simp only [Order.pick, List.getElem?_toArray, List.getElem?_cons_zero, List.getElem?_cons_succ]
      repeat (first
        | (refine Order.reads_off (by rfl) ?_
           simp only [Act.put, List.setIfInBounds_toArray, List.set_cons_zero, List.set_cons_succ])
        | (apply Order.reads_on
           · rfl
           · intro x hx
             first
               | (go_simp; rfl)
               | (fail
                  go_simp; rfl)
           simp only [Act.put, List.setIfInBounds_toArray, List.set_cons_zero, List.set_cons_succ]))
      refine Order.reads_end ?_
      have HP := Lib.hid (dpb_any (fil (h6 e n p o own)) 124 4 C h6l (by omega) (by omega) (by omega) wr.drew)
      rw [HE.out] at HP
      apply Order.acts_any (R := (Turns (fun k => k = R))) (fun h k => h.trans k fun _ _ h => h) (i := 4)
      · rfl
      · decide +kernel
      · rfl
      unfold Oper.wp
      go_simp
      first | rw [hw] | skip
      refine HP.out.mono ?_
      rintro r1 Y9 ⟨rfl, ht⟩
      refine ⟨Turns.of_below ht, ?_⟩
      have hS9 := HS.out.on (((Below.refl wr.heap.size wr).drew).trans ht)
      have h8 := secB_len (e := e) (n := n) (p := p) (o := o) hl
      apply Order.acts_any (R := (Turns (fun k => k = R))) (fun h k => h.trans k fun _ _ h => h) (i := 5)
      · rfl
      · decide +kernel
      · rfl
      simp only [List.getElem_toArray, List.getElem_cons_succ, List.getElem_cons_zero]
      refine wp_store_row tSec _ _ rfl R (sec (secB e n p o own)) rfl rfl tSec (sec nul) hS9.res (by rw [Ta.sec_size h8]; exact Ta.info_sec) (by rw [Ta.sec_size h8]; rfl) (Ta.sec_one _) ?_
      refine ⟨turn_row _ _ _, ?_⟩
      refine wpAnyH_done (by decide +kernel) ?_ _
      refine NoPanic.normal ?_
      have hrow := hS9.res.row (secB e n p o own)
      have hbf := below_setRow hS9.below (g := R) hS9.low.1 (sec (secB e n p o own))
      have hi : (Try.prog.info? tSec).map (·.size) = some (sec (secB e n p o own)).size := by rw [Ta.sec_size h8]; exact Ta.info_sec
      have HEn := Lib.hid (And.intro hbf (And.intro hrow hi))
      clear hS9 hrow hbf hi
      go_wp2_with fail
      exact bodyPost_ret (v := .agg (sec (secB e n p o own))) (results_cell_row (p := 10) (ty := tSec) (by kernel_rfl) _ _ R tSec _ (0, 0) _ rfl HEn.out.2.1 Try.underlying64 rfl HEn.out.2.2) rfl ⟨rfl, HEn.out.1⟩
end Sp
end Go.Proofs.Ytkfmmdiflbnhgaa
