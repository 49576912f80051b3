/-
  strconv.FormatInt at base 16 in this program: the small hexadecimal digits of a number that isn't negative. What is asked: one cell of math/bits' table.
-/
import Derived.Test.YtldfobciojmlnaaDoorGlyPureB
import Derived.Test.YtldfobciojmlnaaDoorShelf
import Derived.WalkKit
import Derived.WalkSmall
import Derived.BigCall
import Derived.BigQuiet
import Derived.Deep.QuietTactic
import Derived.Lib.Hide
import Derived.Lib.ItoaWalk
import Derived.Laws.BitsAllLaws
import Derived.Laws.IdiomStrings
namespace Go.Proofs.YtldfobciojmlnaaDoor
open Go.RowKit
namespace Num

/-- The cell of the table that TrailingZeros64 reads at 16. -/
def Tab (w : World) : Prop := w.cell? ⟨3, 15, none⟩ = some (.int .u8 4)

theorem lt_of_cell {w : World} {b o : Nat} {v : Value} (h : w.cell? ⟨b, o, none⟩ = some v) : b < w.heap.size := by
  rcases Nat.lt_or_ge b w.heap.size with h' | h'
  · exact h'
  · simp [World.cell?, Array.getElem?_eq_none h'] at h

theorem Tab.below {w w' : World} (h : Tab w) (hb : Below w.heap.size w w') : Tab w' :=
  (hb.cell (p := ⟨3, 15, none⟩) (lt_of_cell h)).trans h

set_option maxHeartbeats 1000000 in
set_option maxRecDepth 100000 in
theorem tz16 (w : World) (h : w.cell? ⟨3, 15, none⟩ = some (.int .u8 4)) :
    Calls Tryd.prog 77 #[.int .u64 16] w fun e w' => e = .returned (.int .i64 4) ∧ w = w' := by
  have hv : IntKind.u64.wrap (bits BinOp.and IntKind.u64 16 (IntKind.u64.wrap (-16)) * 285870213051353865) / 288230376151711744 = 15 := by decide +kernel
  go_enter Tryd.func77, Tryd.ntmps77
  go_wp2
  go_ret
  exact ⟨rfl, rfl⟩

theorem pow16 (w : World) : Calls Tryd.prog 76 #[.int .i64 16] w fun e w' => e = .returned (.bool true) ∧ w = w' := by
  have hv : bits BinOp.and IntKind.i64 16 15 = 0 := by decide +kernel
  go_enter Tryd.func76, Tryd.ntmps76
  go_wp2
  go_ret
  exact ⟨rfl, rfl⟩

/-- The digits, as the library's text has them. -/
def digs : ByteArray := ⟨#[48, 49, 50, 51, 52, 53, 54, 55, 56, 57, 97, 98, 99, 100, 101, 102, 103, 104, 105, 106, 107, 108, 109, 110, 111, 112, 113, 114, 115, 116, 117, 118, 119, 120, 121, 122]⟩
theorem digs_at : ∀ i, i < 16 → digs.data.toList.getD i 0 = Gly.hexDigit i := by decide
theorem idx_digs (z : Int) (i : Nat) (hz : z = (i : Int)) (hi : i < 16) (k : IntKind) (w : World) :
    (Instr.index 9 (.string digs) (.int k z)).run Tryd.prog w = .ok (.int .u8 ((Gly.hexDigit i).toNat : Int)) w := by
  subst hz
  have hs : digs.size = 36 := rfl
  rw [run_index_string w 9 digs k _ Tryd.underlying9, dif_pos ⟨by omega, by rw [hs]; omega⟩]
  have e : ((i : Int)).toNat = i := by omega
  simp only [e]
  rw [Lib.getD_at digs i (by rw [hs]; omega), digs_at i hi]

/-- The array's block: from place k on it holds acc's bytes. -/
def Row (W : World) (B k : Nat) (acc : List UInt8) : Prop :=
  ∃ cur : Array Value, W.heap[B]? = some (.cells cur 87 (0, 0)) ∧ cur.size = 65 ∧ k + acc.length = 65 ∧ ∀ j, j < acc.length → cur[k + j]? = some (.int .u8 ((acc.getD j 0).toNat : Int))

theorem Row.cell {W : World} {B k : Nat} {acc : List UInt8} (h : Row W B k acc) {j : Nat} (hj : j < 65) : ∃ v, W.cell? ⟨B, j, none⟩ = some v := by
  obtain ⟨cur, hb, hs, _, _⟩ := h
  rw [Lib.cell_of_heap hb]
  exact ⟨cur[j], by rw [Array.getElem?_eq_getElem]⟩
theorem Row.frozen {W : World} {B k : Nat} {acc : List UInt8} (h : Row W B k acc) (j : Nat) : W.frozen? ⟨B, j, none⟩ = false := by
  obtain ⟨cur, hb, _, _, _⟩ := h
  exact Lib.frozen_of_heap hb j
theorem Row.at {W : World} {B k : Nat} {acc : List UInt8} (h : Row W B k acc) {j : Nat} (hj : j < acc.length) : W.cell? ⟨B, k + j, none⟩ = some (.int .u8 ((acc.getD j 0).toNat : Int)) := by
  obtain ⟨cur, hb, _, _, ha⟩ := h
  rw [Lib.cell_of_heap hb]
  exact ha j hj
theorem Row.put {W : World} {B k : Nat} {acc : List UInt8} (h : Row W B (k + 1) acc) (d : UInt8) : Row (W.setCell ⟨B, k, none⟩ (.int .u8 (d.toNat : Int))) B k (d :: acc) := by
  obtain ⟨cur, hb, hs, hl, ha⟩ := h
  refine ⟨_, heap_setCell_same W B k cur _ _ hb, by simp [hs], by simp; omega, fun j hj => ?_⟩
  cases j with
  | zero =>
      rw [Nat.add_zero, Array.getElem?_setIfInBounds, if_pos rfl, if_pos (by omega)]
      rfl
  | succ j =>
    have : k ≠ k + (j + 1) := by omega
    simp only [Array.getElem?_setIfInBounds, if_neg this]
    rw [show k + (j + 1) = k + 1 + j by omega, ha j (by simpa using hj)]
    simp
/-- The slice of what was written, as a text. -/
theorem back {W : World} {B k : Nat} {d : UInt8} {acc : List UInt8} (h : Row W B k (d :: acc)) :
    (convert 48 9 (.slice (some ⟨B, k, none⟩) (acc.length + 1) (acc.length + 1))).run Tryd.prog W = .ok (.string ⟨(d :: acc).toArray⟩) W := by
  have := run_convert_bytes_back (P := Tryd.prog) W 48 9 5 ⟨B, k, none⟩ (acc.length + 1) (d :: acc) Tryd.underlying48 Tryd.underlying5 Tryd.underlying9 (fun j hj => by
    have e : (⟨B, k, none⟩ : Addr).add j = ⟨B, k + j, none⟩ := by
      unfold Addr.add
      split
      · rename_i h; subst h; rfl
      · rfl
    have hg : (d :: acc).getD j 0 = (d :: acc)[j] := by rw [List.getD, List.getElem?_eq_getElem hj]; rfl
    rw [e, h.at hj, hg])
  simpa using this
/-- 'var a [65]byte', as it is laid. -/
def zeros65 : Array Value := Array.replicate 65 (.int .u8 0)
theorem zeros65_size : zeros65.size = 65 := Array.size_replicate
theorem zeros65_run (W : World) : (zeroValue 87).run Tryd.prog W = .ok (.agg zeros65) W := by kernel_rfl
theorem Row.start (W : World) (Z : Array Value) (hZ : Z = Array.replicate 65 (.int .u8 0)) : Row (W.alloc (.cells Z 87)) W.heap.size 65 [] := by
  refine ⟨_, heap_alloc_new W _, by rw [hZ]; simp, by simp, fun j hj => by simp at hj⟩

set_option maxHeartbeats 4000000 in
set_option maxRecDepth 100000 in
theorem bits16 (u : Nat) (w : World) (hu : u < 2147483648) (h : Tab w) :
    Calls Tryd.prog 71 #[.slice none 0 0, .int .u64 u, .int .i64 16, .bool false, .bool false] w fun e w' => e = .returned (.tuple #[.slice none 0 0, .string ⟨(Gly.hex u).toArray⟩]) ∧ Below w.heap.size w w' := by
  have hzr := zeros65_run
  go_enter Tryd.func71, Tryd.ntmps71
  go_wp2_with (go_at_call 76; refine (pow16 _).mono ?_; rintro e w' ⟨rfl, rfl⟩)
  go_wp2_with (go_at_call 77; refine (tz16 _ ?_).mono ?_)
  · exact (World.cell?_alloc_lt w _ _ (lt_of_cell (show w.cell? ⟨3, 15, none⟩ = _ from h))).trans h
  rintro e w' ⟨rfl, rfl⟩
  go_wp2
  go_name_bytes SM hSM
  have eSM : SM = digs := by rw [← hSM]; decide +kernel
  subst eSM
  clear hSM
  go_loopw [1, 13] (fun vu vi wr => ∃ (v k : Nat) (acc : List UInt8), vu = .int .u64 v ∧ vi = .int .i64 k ∧ Row wr w.heap.size k acc ∧ Below w.heap.size w wr ∧ Hid (Gly.hex v ++ acc = Gly.hex u) ∧ v ≤ u) (fun vu _ _ => (intOf vu).toNat)
  case atStart => exact ⟨u, 65, [], rfl, rfl, Row.start w _ (by kernel_rfl), (Below.refl w.heap.size w).alloc (Nat.le_refl _) _, Lib.hid (by simp), Nat.le_refl _⟩
  case round =>
    obtain ⟨v, k, acc, rfl, rfl, hrow, hbw, HX, hvu⟩ := hrel
    have hk1 : 1 ≤ k := by
      have h1 := (Gly.hex_len 7 u (by omega)).2
      have h2 := (Gly.hex_len 7 v (by omega)).1
      have h3 := congrArg List.length HX
      rw [List.length_append] at h3
      obtain ⟨_, _, _, h4, _⟩ := hrow
      omega
    have hk2 : k ≤ 65 := by obtain ⟨_, _, _, h4, _⟩ := hrow; omega
    obtain ⟨k, rfl⟩ : ∃ j, k = j + 1 := ⟨k - 1, by omega⟩
    obtain ⟨c0, hc0⟩ := hrow.cell (j := k) (by omega)
    have hf0 := hrow.frozen k
    by_cases hv : v < 16
    · have hX : ∀ w, (Instr.index 9 (.string digs) (.int .u64 (v : Int))).run Tryd.prog w = .ok (.int .u8 ((Gly.hexDigit v).toNat : Int)) w := idx_digs _ v rfl hv .u64
      have hal : Tryd.prog.arrayLen 87 = 65 := by kernel_rfl
      have hlen : k + (acc.length + 1) = 65 := by obtain ⟨_, _, _, h4, _⟩ := hrow; omega
      have hsl : ∀ W, (Instr.sliceAt 87 (.pointer (some ⟨w.heap.size, 0, none⟩)) (some (.int .i64 (k : Int))) none none).run Tryd.prog W = .ok (.slice (some ⟨w.heap.size, k, none⟩) (acc.length + 1) (acc.length + 1)) W := fun W => by
        rw [run_sliceAt_array_l W 87 ⟨w.heap.size, 0, none⟩ Tryd.underlying87 .i64 (k : Int) (by omega) (by rw [hal]; omega)]
        go_simp
        omega
      have hds : digs.size = 36 := rfl
      have hdi : digs[v]'(by show _ < 36; omega) = Gly.hexDigit v := by rw [Lib.getD_at digs _ (by omega), digs_at _ (by omega)]
      unfold digs at hdi
      have HI := Lib.hid hdi
      clear hdi
      go_wp2
      rw [HI.out]
      have hput := hrow.put (Gly.hexDigit v)
      have hbw2 := hbw.setCell (p := ⟨w.heap.size, k, none⟩) (Nat.le_refl _) (.int .u8 ((Gly.hexDigit v).toNat : Int))
      generalize wr.setCell ⟨w.heap.size, k, none⟩ (.int .u8 ((Gly.hexDigit v).toNat : Int)) = W1 at hput hbw2
      rw [back hput]
      simp only [Result.andThen]
      rw [Oper.upon_value]
      have hfin : Gly.hexDigit v :: acc = Gly.hex u := by rw [← HX.out, Gly.hex_small hv]; rfl
      rw [hfin]
      go_wp2
      go_ret2
      exact ⟨rfl, hbw2⟩
    · have ha : bits BinOp.and IntKind.u64 (v : Int) 15 = ((v % 16 : Nat) : Int) := by
        have := u64_and_nat v 15 (by omega) (by omega)
        rw [show v &&& 15 = v % 16 from Nat.and_two_pow_sub_one_eq_mod v 4] at this
        exact this
      have hds : digs.size = 36 := rfl
      have hdi : digs[v % 16]'(by show _ < 36; omega) = Gly.hexDigit (v % 16) := by rw [Lib.getD_at digs _ (by omega), digs_at _ (by omega)]
      have hput := hrow.put (Gly.hexDigit (v % 16))
      have hbw2 := hbw.setCell (p := ⟨w.heap.size, k, none⟩) (Nat.le_refl _) (.int .u8 ((Gly.hexDigit (v % 16)).toNat : Int))
      have HX2 : Hid (Gly.hex (v / 16) ++ (Gly.hexDigit (v % 16) :: acc) = Gly.hex u) := by
        have := HX
        rw [Gly.hex_step hv, List.append_assoc] at this
        exact this
      have HD := Lib.hid hds
      have HI := Lib.hid hdi
      clear hdi hds HX
      go_wp2
      · go_roundw
        case rel =>
          rw [HI.out]
          exact ⟨v / 16, k, _, by go_num, rfl, hput, hbw2, HX2, by omega⟩
        case measure => simp [intOf]; omega
      · exfalso; have := HD.out; omega

set_option maxHeartbeats 1000000 in
set_option maxRecDepth 100000 in
/-- strconv.FormatInt(u, 16), u not negative and below 2^31: the hexadecimal digits. -/
theorem formatInt (u : Nat) (w : World) (hu : u < 2147483648) (h : Tab w) :
    Calls Tryd.prog 50 #[.int .i64 u, .int .i64 16] w fun e w' => e = .returned (.string ⟨(Gly.hex u).toArray⟩) ∧ Below w.heap.size w w' := by
  go_enter Tryd.func50, Tryd.ntmps50
  go_wp2_with (first
    | (go_at_call 71; refine (bits16 u _ hu h).mono ?_; rintro e w' ⟨rfl, hb⟩)
    | go_in)
  go_ret
  exact ⟨rfl, hb⟩
end Num
end Go.Proofs.YtldfobciojmlnaaDoor
