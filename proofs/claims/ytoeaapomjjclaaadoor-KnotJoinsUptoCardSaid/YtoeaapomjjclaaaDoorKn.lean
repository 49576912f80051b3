/-
  Layer 4 (knot): what a knot holds; a number's digits behind its bytes. What is asked: the library's table of powers of ten.
-/
import Derived.Test.YtoeaapomjjclaaaDoorTurn
import Derived.Test.YtoeaapomjjclaaaDoorKnotPure
import Derived.Lib.AppendIntMem
import Derived.Lib.OwnKind
import Derived.Lib.Slices
import Derived.OwnWalk
import Derived.CellFam
import Derived.BigGuard
namespace Go.Proofs.YtoeaapomjjclaaaDoor
open Go.RowKit Go.Sort
namespace Knot

theorem infoByte : (Tryd.prog.info? 5).map (fun i => (i.zero, i.size, i.bytes)) = some (some (.int .u8 0), 1, 1) := by kernel_rfl
theorem isBytes : ∃ i, IsBytes Tryd.prog 43 5 i := by
  obtain ⟨i, h0, h1, h2, h3⟩ := info_parts infoByte
  exact ⟨i, Tryd.underlying43, h0, h1, h2, h3⟩

/-- The library's table, whatever is done from block B on. -/
abbrev Tab (B : Nat) (w : World) : Prop := Lib.TabBelow Tryd.prog B w "internal/strconv.uint64pow10" .u64 Lib.pow10Tab

/-! ### digits -/
theorem dec_digits : ∀ n : Nat, Lib.decDigits n = digits n := by
  intro n
  induction n using Nat.strongRecOn with
  | ind n ih =>
    by_cases h : n < 10
    · rw [digits_low h, Lib.decDigits, dif_pos h, dig, Nat.mod_eq_of_lt h]
    · rw [digits_high h, Lib.decDigits, dif_neg h, ih (n / 10) (by omega), dig]
theorem len_digits {n : Nat} (h : n < 18446744073709551616) : (digits n).length ≤ 20 := digits_len 19 n (by omega)

/-! ### a number behind bytes that the call owns -/
set_option maxHeartbeats 6400000 in
set_option maxRecDepth 100000 in
theorem uint_small (B n u : Nat) (hu : u < 100) (sv : Value) (xs : List Value) (w : World) (hown : w.ownsRow B 5 1 sv n xs) (hB : B ≤ w.heap.size) (hs : n ≤ 90000000) :
    Calls Tryd.prog 61 #[sv, .int .u64 u, .int .i64 10] w fun e w' => ∃ v', e = .returned v' ∧ w'.ownsRow B 5 1 v' (n + (Lib.decDigits u).length) (xs ++ Lib.byteCells (Lib.decDigits u)) ∧ w.grownBy w' sv.ownBlock ∧ NewRow w sv v' := by
  obtain ⟨i0, T⟩ := isBytes
  have hlen : (Lib.decDigits u).length ≤ 20 := by rw [dec_digits]; exact len_digits (by omega)
  have hsz : (⟨(Lib.decDigits u).toArray⟩ : ByteArray).size = (Lib.decDigits u).length := by simp [ByteArray.size]
  go_enter Tryd.func61, Tryd.ntmps61
  go_wp2_with (first
    | (go_at_call 64; refine (Tryd.internal_strconv_small u hu _).mono ?_; rintro e w' ⟨rfl, rfl⟩)
    | (at_builtin; refine walk_text T Tryd.underlying9 rfl _ _ rfl rfl rfl hown hB (by rw [hsz]; omega) ?_))
  intro v' w1 hown' hgrow hnew
  go_wp2
  go_ret
  refine ⟨v', rfl, ?_, hgrow, hnew⟩
  first | exact hown' | (rw [hsz] at hown'; exact hown')

theorem hal : Tryd.prog.arrayLen 87 = 24 := by simp [Program.arrayLen, Tryd.underlying87]
/-- The first places of a new array, cut out of it. -/
theorem cut_array (W : World) (b k : Nat) (hk : k ≤ 20) : (Instr.sliceAt 87 (.pointer (some ⟨b, 0, none⟩)) none (some (.int .i64 (k : Int))) none).run Tryd.prog W = .ok (.slice (some ⟨b, 0, none⟩) k 24) W := by
  rw [run_sliceAt_array_h W 87 ⟨b, 0, none⟩ (by simp [Program.arrayLen, Program.elem, Tryd.underlying87]) .i64 (k : Int) (by omega) (by rw [hal]; omega)]
  go_simp

set_option maxHeartbeats 12800000 in
set_option maxRecDepth 100000 in
theorem uint_big (B n u : Nat) (hu : 100 ≤ u) (hu64 : u < 18446744073709551616) (sv : Value) (xs : List Value) (w : World) (hown : w.ownsRow B 5 1 sv n xs) (hB : B ≤ w.heap.size) (hs : n ≤ 90000000)
    (htab : Lib.TabIs Tryd.prog w "internal/strconv.uint64pow10" .u64 Lib.pow10Tab) :
    Calls Tryd.prog 61 #[sv, .int .u64 u, .int .i64 10] w fun e w' => ∃ v', e = .returned v' ∧ w'.ownsRow B 5 1 v' (n + (Lib.decDigits u).length) (xs ++ Lib.byteCells (Lib.decDigits u)) ∧ w.grownBy w' sv.ownBlock ∧ NewRow w sv v' := by
  obtain ⟨i0, T⟩ := isBytes
  have hu1 : 1 ≤ u := by omega
  have hnd20 : Lib.nDigits u ≤ 20 := by rw [← Lib.decDigits_length, dec_digits]; exact len_digits hu64
  have hsl := fun W => cut_array W w.heap.size (Lib.nDigits u) hnd20
  have hH0 := Lib.holds_zero0 w 87 (Lib.nDigits u) (by omega)
  have hfmt := Tryd.internal_strconv_formatBase10 w.heap.size 0 24 u (Array.replicate (Lib.nDigits u) 0) (w.alloc (.cells Lib.zeros24 87)) hH0 (by rw [Array.size_replicate]; exact Lib.lt_pow_nDigits u) hu64 (by rw [Array.size_replicate]; omega)
  rw [Array.size_replicate] at hfmt
  have HH0 := Lib.hid hH0
  have iu : (100 : Int) ≤ (u : Int) := by omega
  have HT := Lib.hid T
  clear hH0 T
  go_enter Tryd.func61, Tryd.ntmps61
  go_wp2_with (go_at_call 65; refine (Tryd.internal_strconv_numDigits u hu1 hu64 _ (Lib.tabIs_alloc htab _)).mono ?_; rintro e w' ⟨rfl, rfl⟩)
  refine hfmt.mono ?_
  rintro e w' ⟨rfl, k, v', dk, rfl, hF⟩
  have hcells : ∀ j u', (Lib.byteCells (Lib.decDigits u))[j]? = some u' → ((putRow (fun (b : UInt8) => Value.int .u8 (b.toNat : Int)) (w.alloc (.cells Lib.zeros24 87)) w.heap.size 0 dk).drewN k).cell? ((⟨w.heap.size, 0, none⟩ : Addr).add j) = some u' := by
    intro j u' hj
    have hjl : j < (Lib.decDigits u).length := by
      have h5 := (List.getElem?_eq_some_iff.1 hj).1
      rwa [Lib.byteCells_length] at h5
    have e5 : (Lib.byteCells (Lib.decDigits u))[j]? = some (Value.int .u8 ((Lib.decDigits u)[j].toNat : Int)) := by simp [Lib.byteCells, hjl]
    rw [e5] at hj
    cases hj
    rw [Lib.row_is_numeral hF j hjl, Lib.add_plain, World.cell?_drewN]
    exact cell?_putRow (fun (b : UInt8) => Value.int .u8 (b.toNat : Int)) _ w.heap.size 0 _ dk HH0.out (by rw [hF.size, Array.size_replicate]) j (by rw [hF.size]; rw [Lib.decDigits_length] at hjl; exact hjl)
  obtain ⟨os, eo⟩ := Lib.fin_at w (.cells Lib.zeros24 87) dk k 0
  have hown2 : ((putRow (fun (b : UInt8) => Value.int .u8 (b.toNat : Int)) (w.alloc (.cells Lib.zeros24 87)) w.heap.size 0 dk).drewN k).ownsRow B 5 1 sv n xs := by rw [eo]; exact Lib.ownsRow_grow hown k os
  have hb2 : Below w.heap.size w ((putRow (fun (b : UInt8) => Value.int .u8 (b.toNat : Int)) (w.alloc (.cells Lib.zeros24 87)) w.heap.size 0 dk).drewN k) := by rw [eo]; exact Lib.below_grow w.heap.size w (Nat.le_refl _) k os
  generalize (putRow (fun (b : UInt8) => Value.int .u8 (b.toNat : Int)) (w.alloc (.cells Lib.zeros24 87)) w.heap.size 0 dk).drewN k = W2 at hcells hown2 hb2 ⊢
  clear eo HH0 hfmt
  have hsz2 := hb2.size
  have hdl : (Lib.byteCells (Lib.decDigits u)).length = Lib.nDigits u := by rw [Lib.byteCells_length, Lib.decDigits_length]
  have hone : ∀ u' ∈ Lib.byteCells (Lib.decDigits u), u'.oneCell' = true := by
    intro u' hu'
    simp only [Lib.byteCells, List.mem_map] at hu'
    obtain ⟨b, _, rfl⟩ := hu'
    rfl
  have HD := Lib.hid hdl
  clear hdl
  go_wp2_with (at_builtin; refine walk_row HT.out rfl _ _ rfl rfl rfl hown2 (by omega) HD.out hcells hone (by omega) ?_)
  intro v2 w3 hown' hgrow hnew
  go_wp2
  go_ret
  refine ⟨v2, rfl, ?_, ⟨hgrow.os.trans hb2.os, hgrow.tape.trans hb2.tape, hgrow.output.trans hb2.output, by have := hgrow.size; omega, fun j hj hn => (hgrow.block j (by omega) hn).trans (hb2.block j hj)⟩, fun j hj => ?_⟩
  · rw [Lib.decDigits_length]
    exact hown'
  · rcases hnew j hj with h | h
    · exact .inl h
    · exact .inr (by omega)

/-- A number's digits behind bytes that the call owns. -/
theorem int_any (B n u : Nat) (hu : u < 9223372036854775808) (sv : Value) (xs : List Value) (w : World) (hown : w.ownsRow B 5 1 sv n xs) (hB : B ≤ w.heap.size) (hs : n ≤ 90000000) (htab : Tab B w) :
    Calls Tryd.prog 47 #[sv, .int .i64 u, .int .i64 10] w fun e w' => ∃ v', e = .returned v' ∧ w'.ownsRow B 5 1 v' (n + (digits u).length) (xs ++ Lib.byteCells (digits u)) ∧ w.grownBy w' sv.ownBlock ∧ NewRow w sv v' := by
  have h1 : Calls Tryd.prog 61 #[sv, .int .u64 u, .int .i64 10] w fun e w' => ∃ v', e = .returned v' ∧ w'.ownsRow B 5 1 v' (n + (digits u).length) (xs ++ Lib.byteCells (digits u)) ∧ w.grownBy w' sv.ownBlock ∧ NewRow w sv v' := by
    rw [← dec_digits]
    by_cases h : u < 100
    · exact uint_small B n u h sv xs w hown hB hs
    · exact uint_big B n u (by omega) (by omega) sv xs w hown hB hs htab.here
  have H1 := Lib.hid h1
  clear h1 hown htab
  have h2 : Calls Tryd.prog 56 #[sv, .int .i64 u, .int .i64 10] w fun e w' => ∃ v', e = .returned v' ∧ w'.ownsRow B 5 1 v' (n + (digits u).length) (xs ++ Lib.byteCells (digits u)) ∧ w.grownBy w' sv.ownBlock ∧ NewRow w sv v' := by
    go_enter Tryd.func56, Tryd.ntmps56
    go_wp2_with (go_at_call 61; refine H1.out.mono ?_; rintro e w' ⟨v', rfl, h⟩)
    go_ret
    exact ⟨v', rfl, h⟩
  have H2 := Lib.hid h2
  clear h2 H1
  go_enter Tryd.func47, Tryd.ntmps47
  go_wp2_with (go_at_call 56; refine H2.out.mono ?_; rintro e w' ⟨v', rfl, h⟩)
  go_ret
  exact ⟨v', rfl, h⟩
end Knot
end Go.Proofs.YtoeaapomjjclaaaDoor
