/-
  strings.Join in this program: at texts that lie in a row, at most four million bytes in all, it answers these with the separator between; it only makes new blocks.
-/
import Derived.Test.YtdlfbikpniionaaGreatDoorBld
import Derived.Test.YtdlfbikpniionaaGreatDoorTrBuild
import Derived.Test.YtdlfbikpniionaaGreatDoorMgPure
namespace Go.Proofs.YtdlfbikpniionaaGreatDoor
open Go.RowKit
namespace Cn
open Gr (bs bs_list bs_size bs_app bs_of)

/-- Texts with one between. -/
def jn (sep : List UInt8) : List (List UInt8) → List UInt8
  | [] => []
  | a :: r => a ++ r.flatMap (fun b => sep ++ b)
def szs (xs : List ByteArray) : Nat := (xs.map ByteArray.size).sum
theorem szs_take {xs : List ByteArray} {j : Nat} (h : j < xs.length) : szs (xs.take (j + 1)) = szs (xs.take j) + xs[j].size := by
  unfold szs
  rw [List.take_succ_eq_append_getElem h, List.map_append, List.sum_append]
  simp only [List.map_cons, List.map_nil, List.sum_cons, List.sum_nil, Nat.add_zero]
theorem szs_le (xs : List ByteArray) (j : Nat) : szs (xs.take j) ≤ szs xs := by
  have h : szs xs = szs (xs.take j) + szs (xs.drop j) := by
    unfold szs
    rw [← List.sum_append, ← List.map_append, List.take_append_drop]
  omega
def tls (xs : List ByteArray) : List (List UInt8) := xs.map fun s => s.data.toList
/-- What is written behind so many texts. -/
def acc (sep : ByteArray) (xs : List ByteArray) (j : Nat) : List UInt8 := jn sep.data.toList ((tls xs).take (j + 1))
theorem acc_step {sep : ByteArray} {xs : List ByteArray} {j : Nat} (h : j + 1 < xs.length) : acc sep xs (j + 1) = acc sep xs j ++ sep.data.toList ++ xs[j + 1].data.toList := by
  unfold acc
  match xs, h with
  | a :: r, h =>
    have h' : j < (tls r).length := by rw [tls, List.length_map]; simpa using h
    have e : (tls (a :: r)).take (j + 1 + 1) = a.data.toList :: (tls r).take (j + 1) := rfl
    have e2 : (tls (a :: r)).take (j + 1) = a.data.toList :: (tls r).take j := rfl
    rw [e, e2, jn, jn, List.take_succ_eq_append_getElem h', List.flatMap_append]
    simp [tls]
theorem acc_last {sep : ByteArray} {xs : List ByteArray} {j : Nat} (h : j + 1 = xs.length) : acc sep xs j = jn sep.data.toList (tls xs) := by
  unfold acc
  rw [List.take_of_length_le (by rw [tls, List.length_map]; omega)]
theorem acc_len {sep : ByteArray} {xs : List ByteArray} : ∀ {j : Nat}, j < xs.length → (acc sep xs j).length = sep.size * j + szs (xs.take (j + 1))
  | 0, h => by
    match xs, h with
    | a :: r, h => simp [acc, tls, jn, szs]
  | j + 1, h => by
    rw [acc_step h, List.length_append, List.length_append, acc_len (by omega), szs_take h, Nat.mul_add, Nat.mul_one]
    simp only [Array.length_toList, ← ByteArray.size_data]
    omega
theorem szs_first {xs : List ByteArray} (h : 0 < xs.length) : xs[0].size ≤ szs xs := by
  match xs, h with
  | a :: r, _ => simp [szs]
theorem acc_first {sep : ByteArray} {xs : List ByteArray} (h : 0 < xs.length) : acc sep xs 0 = xs[0].data.toList := by
  match xs, h with
  | a :: r, _ => simp [acc, tls, jn]
theorem elemS : Tryz.prog.underlying 114 = some (.slice (Tryz.prog.elem 114)) := by kernel_rfl
theorem sizeS : ∀ w, (sizeOf (Tryz.prog.elem 114)).run Tryz.prog w = .ok 1 w := fun w => by kernel_rfl
theorem str_at {g o n cap : Nat} {i : Nat} (hi : i < n) (W : World) : (Instr.indexAt 114 (.slice (some ⟨g, o, none⟩) n cap) (.int .i64 (i : Int))).run Tryz.prog W = .ok (.pointer (some ⟨g, o + i, none⟩)) W := by
  rw [run_indexAt_slice W _ _ _ _ _ _ elemS, if_pos ⟨by omega, by omega⟩, sizeS]
  have e : ((i : Int)).toNat = i := by omega
  simp only [Result.andThen_ok, e, Addr.add_lit, Nat.mul_one]
theorem str_tail {g o n cap : Nat} (hn : 2 ≤ n) (hc : n ≤ cap) (W : World) : (Instr.slice 114 (.slice (some ⟨g, o, none⟩) n cap) (some (.int .i64 1)) none none).run Tryz.prog W = .ok (.slice (some ⟨g, o + 1, none⟩) (n - 1) (cap - 1)) W := by
  rw [run_slice_l W 114 (some ⟨g, o, none⟩) n cap elemS .i64 1 (by omega) (by omega), sizeS]
  have e : (1 : Int).toNat = 1 := rfl
  have e2 : cap ≠ 1 := by omega
  simp only [Result.andThen_ok, sliced, e, Option.map_some, Nat.one_mul]
  rw [if_neg e2]
  rfl

set_option maxHeartbeats 4000000 in
set_option maxRecDepth 100000 in
theorem join_any (xs : List ByteArray) (sep : ByteArray) (g o cap : Nat) (w : World) (hr : ∀ (i : Nat) (u : ByteArray), xs[i]? = some u → w.cell? ⟨g, o + i, none⟩ = some (.string u))
    (hsep : sep.size = 2 ∨ sep.size = 3) (hc : xs.length ≤ cap) (hl : xs.length ≤ 100000) (hs : szs xs ≤ 4000000) :
    Calls Tryz.prog 49 #[.slice (some ⟨g, o, none⟩) xs.length cap, .string sep] w fun e x => e = .returned (.string (bs (jn sep.data.toList (tls xs)))) ∧ Below w.heap.size w x := by
  by_cases h0 : xs.length = 0
  · have hx : xs = [] := List.eq_nil_of_length_eq_zero h0
    have e0 : ((xs.length : Int) == 0) = true := by rw [h0]; rfl
    have hfin : bs (jn sep.data.toList (tls xs)) = ⟨#[]⟩ := by rw [hx]; rfl
    have HF := Lib.hid hfin
    clear hr hfin hx h0 hs hsep hl hc
    go_enter Tryz.func49, Tryz.ntmps49
    go_wp2_with fail
    go_ret
    exact ⟨by rw [HF.out]; rfl, Below.refl _ _⟩
  by_cases h1 : xs.length = 1
  · obtain ⟨a, ha⟩ : ∃ a, xs = [a] := by
      match xs, h1 with
      | [a], _ => exact ⟨a, rfl⟩
    have c0 : w.cell? ⟨g, o, none⟩ = some (.string a) := hr 0 a (by rw [ha]; rfl)
    have hix : ∀ W, (Instr.indexAt 114 (.slice (some ⟨g, o, none⟩) xs.length cap) (.int .i64 0)).run Tryz.prog W = .ok (.pointer (some ⟨g, o, none⟩)) W := str_at (i := 0) (by omega)
    have hfin : bs (jn sep.data.toList (tls xs)) = a := by
      rw [ha]
      simp only [tls, jn, List.map_cons, List.map_nil, List.flatMap_nil, List.append_nil]
      exact bs_of a
    have e0 : ((xs.length : Int) == 0) = false := beq_eq_false_iff_ne.2 (by omega)
    have e1 : ((xs.length : Int) == 1) = true := by rw [h1]; rfl
    have HF := Lib.hid hfin
    clear hr hfin h0 h1 ha hs hsep hl hc
    go_enter Tryz.func49, Tryz.ntmps49
    go_wp2_with fail
    go_ret
    exact ⟨by rw [HF.out]; rfl, Below.refl _ _⟩
  have e0 : ((xs.length : Int) == 0) = false := beq_eq_false_iff_ne.2 (by omega)
  have e1 : ((xs.length : Int) == 1) = false := beq_eq_false_iff_ne.2 (by omega)
  have h2 : 2 ≤ xs.length := by omega
  have hq : ¬ (9223372036854775807 / ((xs.length : Int) - 1) ≤ (sep.size : Int)) := by
    have h400 : (xs.length : Int) - 1 ≤ 99999 := by omega
    have h4 : (4 : Int) ≤ 9223372036854775807 / ((xs.length : Int) - 1) := by
      rw [Int.le_ediv_iff_mul_le (by omega)]
      omega
    omega
  have hq2 : (sep.size : Int) < 9223372036854775807 / ((xs.length : Int) - 1) := by omega
  have hz : 0 < sep.size := by omega
  have hmul : wrap64 (wrap64 ((sep.size : Int) * ((xs.length : Int) - 1))) = ((sep.size * (xs.length - 1) : Nat) : Int) := by
    have e : ((sep.size * (xs.length - 1) : Nat) : Int) = (sep.size : Int) * ((xs.length : Int) - 1) := by
      rw [Int.natCast_mul, Int.natCast_sub (by omega)]
      rfl
    have hle : sep.size * (xs.length - 1) ≤ 3 * 100000 := Nat.mul_le_mul (by omega) (by omega)
    rw [← e]
    have w1 : wrap64 ((sep.size * (xs.length - 1) : Nat) : Int) = ((sep.size * (xs.length - 1) : Nat) : Int) := by
      unfold wrap64
      omega
    rw [w1, w1]
  have HR := Lib.hid hr
  have HS := Lib.hid (And.intro hs (And.intro hsep (And.intro hl h2)))
  have HM := Lib.hid hmul
  clear hr h0 h1 hs hmul hsep
  go_enter Tryz.func49, Tryz.ntmps49
  go_wp2_with fail
  go_loopw [5, 41] (fun n i wr => ∃ j : Nat, j ≤ xs.length ∧ i = .int .i64 j ∧ n = .int .i64 ((sep.size * (xs.length - 1) + szs (xs.take j) : Nat) : Int) ∧ wr = w) (fun _ i _ => xs.length - (intOf i).toNat)
  case atStart => exact ⟨0, by omega, rfl, by rw [HM.out]; rfl, rfl⟩
  case round =>
    obtain ⟨j, hj, rfl, rfl, hw⟩ := hrel
    obtain rfl := hw.symm
    have hsz1 := szs_le xs j
    have hmle : sep.size * (xs.length - 1) ≤ 3 * 100000 := Nat.mul_le_mul (by have := HS.out.2.1; omega) (by omega)
    by_cases hlt : j < xs.length
    · have hix := str_at (g := g) (o := o) (n := xs.length) (cap := cap) hlt
      have c0 := HR.out j xs[j] (List.getElem?_eq_getElem hlt)
      have htk := szs_take hlt
      have hsz2 := szs_le xs (j + 1)
      have hsz := HS.out.1
      have hadd : ((sep.size * (xs.length - 1) + szs (xs.take j) : Nat) : Int) + (xs[j].size : Int) = ((sep.size * (xs.length - 1) + szs (xs.take (j + 1)) : Nat) : Int) := by omega
      have hle : ((sep.size * (xs.length - 1) + szs (xs.take (j + 1)) : Nat) : Int) ≤ 5000000 := by omega
      have H1 := Lib.hid hadd
      have hn1 : xs[j].size ≤ 5000000 := by omega
      have hn2 : sep.size * (xs.length - 1) + szs (xs.take j) ≤ 5000000 := by omega
      clear hsz1 hmle htk hsz2 hsz hadd hle hq hq2 hz
      generalize sep.size * (xs.length - 1) + szs (xs.take j) = R at *
      go_wp2_with fail
      go_roundw
      case rel => exact ⟨j + 1, by omega, by go_num, by first | rw [← H1.out] | (rw [← H1.out]; go_num), by first | rfl | trivial⟩
      case measure => simp [intOf]; omega
    · have hj' : j = xs.length := by omega
      subst hj'
      have hsz := HS.out.1
      rw [List.take_length] at hsz1 ⊢
      have hn2 : sep.size * (xs.length - 1) + szs xs ≤ 281474976710656 := by omega
      clear hmle hsz1 hsz
      generalize hRn : sep.size * (xs.length - 1) + szs xs = R at *
      have HRn := Lib.hid hRn
      clear hRn
      have hfresh : (w.alloc (.cells #[.pointer none, .slice none 0 0] 55)).heap[w.heap.size]? = some (.cells #[.pointer none, .slice none 0 0] 55 (0, 0)) := heap_alloc_new w _
      have al := Tr.fresh_one w (.cells #[.pointer none, .slice none 0 0] 55)
      go_wp2_with (go_at_call 69; refine (Tryz.Builder_Grow_fresh w.heap.size w.heap.size R _ (Nat.le_refl _) hfresh al.size hn2).mono ?_)
      rintro e x1 rfl h1 hb1
      have hb1' := al.trans (hb1.mono (Nat.le_refl _))
      have H1 := Lib.hid (And.intro (Lib.IsBuilderF.of (.inr h1)) hb1')
      have hg0 := World.block_lt_of_cell? w _ (HR.out 0 xs[0] (List.getElem?_eq_getElem (by omega)))
      have HG := Lib.hid hg0
      have c0 : x1.cell? ⟨g, o, none⟩ = some (.string xs[0]) := (hb1'.cell (p := ⟨g, o, none⟩) hg0).trans (HR.out 0 xs[0] (List.getElem?_eq_getElem (by omega)))
      have hix : ∀ W, (Instr.indexAt 114 (.slice (some ⟨g, o, none⟩) xs.length cap) (.int .i64 0)).run Tryz.prog W = .ok (.pointer (some ⟨g, o, none⟩)) W := str_at (i := 0) (by omega)
      have hz0 : xs[0].size ≤ 4000000 := Nat.le_trans (szs_first (by omega)) HS.out.1
      have hsl := str_tail (g := g) (o := o) (n := xs.length) (cap := cap) h2 hc
      clear h1 hb1 hb1' al hfresh hn2 hq2 hq hz hg0
      go_wp2_with (go_at_call 17; refine (Bld.writeString w.heap.size w.heap.size _ xs[0] _ H1.out.1 (by simp; omega) H1.out.2.size).mono ?_)
      rintro e x2 ⟨rfl, h2', hb2, -⟩
      have hA : Lib.BuilderAtF 55 5 w.heap.size w.heap.size (.pointer (some ⟨w.heap.size, 0, none⟩)) (Lib.byteCells (acc sep xs 0)) x2 := by
        rw [acc_first (by omega)]
        exact h2'
      have H2 := Lib.hid (And.intro hA (H1.out.2.trans hb2))
      clear h2' hb2 hA H1 c0
      have hlen1 : ((xs.length - 1 : Nat) : Int) = (xs.length : Int) - 1 := by omega
      go_wp2_with fail
      go_loopw [65] (fun i wr => ∃ j : Nat, j + 1 ≤ xs.length ∧ i = .int .i64 j ∧ Hid (Lib.BuilderAtF 55 5 w.heap.size w.heap.size (.pointer (some ⟨w.heap.size, 0, none⟩)) (Lib.byteCells (acc sep xs j)) wr ∧ Below w.heap.size w wr)) (fun i _ => xs.length - (intOf i).toNat)
      case atStart => exact ⟨0, by omega, rfl, H2⟩
      case round =>
        obtain ⟨j, hj, rfl, HJ⟩ := hrel
        clear H2
        by_cases hlt : j + 1 < xs.length
        · have hix2 := str_at (g := g) (o := o + 1) (n := xs.length - 1) (cap := cap - 1) (i := j) (by omega)
          have c1 : wr.cell? ⟨g, o + 1 + j, none⟩ = some (.string xs[j + 1]) := by
            rw [show o + 1 + j = o + (j + 1) by omega]
            exact (HJ.out.2.cell (p := ⟨g, o + (j + 1), none⟩) HG.out).trans (HR.out (j + 1) xs[j + 1] (List.getElem?_eq_getElem hlt))
          have hlen := acc_len (sep := sep) (xs := xs) (j := j) (by omega)
          have hlen2 := acc_len (sep := sep) (xs := xs) (j := j + 1) hlt
          have hstep := acc_step (sep := sep) hlt
          have hb1 := szs_le xs (j + 1)
          have hb2 := szs_le xs (j + 1 + 1)
          have hm1 : sep.size * j ≤ 3 * 100000 := Nat.mul_le_mul (by have := HS.out.2.1; omega) (by omega)
          have hm2 : sep.size * (j + 1) ≤ 3 * 100000 := Nat.mul_le_mul (by have := HS.out.2.1; omega) (by omega)
          have hS := HS.out.1
          have hsep := HS.out.2.1
          have HL := Lib.hid (And.intro (show (acc sep xs j).length ≤ 5000000 by omega) (And.intro (show (acc sep xs (j + 1)).length ≤ 5000000 by omega) hstep))
          have hj4 : j ≤ 100000 := by omega
          have hltz : decide ((j : Int) < (xs.length : Int) - 1) = true := decide_eq_true (by omega)
          clear hlen hlen2 hstep hb1 hb2 hm1 hm2 hS
          go_wp2_with (go_at_call 17; refine (Bld.writeString w.heap.size w.heap.size _ sep _ (.inr HJ.out.1) (by rw [Lib.byteCells_length]; have := HL.out.1; omega) HJ.out.2.size).mono ?_)
          rintro e y1 ⟨rfl, k1, kb1, -⟩
          have HK := Lib.hid (And.intro k1 (HJ.out.2.trans kb1))
          have c2 : y1.cell? ⟨g, o + 1 + j, none⟩ = some (.string xs[j + 1]) := (kb1.cell (p := ⟨g, o + 1 + j, none⟩) HG.out).trans c1
          have hx1 : xs[j + 1].size ≤ 5000000 := by
            have e1 := szs_take hlt
            have e2 := szs_le xs (j + 1 + 1)
            have := HS.out.1
            omega
          clear k1 kb1 c1 HJ
          go_wp2_with (go_at_call 17; refine (Bld.writeString w.heap.size w.heap.size _ xs[j + 1] _ (.inr HK.out.1) (by rw [List.length_append, Lib.byteCells_length, Lib.strCells_length]; have := HL.out.1; omega) HK.out.2.size).mono ?_)
          rintro e y2 ⟨rfl, k2, kb2, -⟩
          have hk2 : Lib.BuilderAtF 55 5 w.heap.size w.heap.size (.pointer (some ⟨w.heap.size, 0, none⟩)) (Lib.byteCells (acc sep xs (j + 1))) y2 := by
            rw [HL.out.2.2, Lib.byteCells_append, Lib.byteCells_append]
            exact k2
          have HK2 := Lib.hid (And.intro hk2 (HK.out.2.trans kb2))
          clear k2 kb2 hk2 HK
          go_wp2_with fail
          go_roundw
          case rel => exact ⟨j + 1, by omega, by go_num, HK2⟩
          case measure => simp [intOf]; omega
        · have hj' : j + 1 = xs.length := by omega
          have hfin := acc_last (sep := sep) hj'
          have hltz : decide ((j : Int) < (xs.length : Int) - 1) = false := decide_eq_false (by omega)
          have HF := Lib.hid hfin
          clear hfin
          go_wp2_with (go_at_call 19; refine (Tryz.Builder_String_any_f w.heap.size w.heap.size _ _ (.inr HJ.out.1) HJ.out.2.size).mono ?_)
          rintro e y1 ⟨rfl, -, kb1⟩
          go_wp2_with fail
          go_ret
          exact ⟨by rw [HF.out]; rfl, HJ.out.2.trans kb1⟩
end Cn
end Go.Proofs.YtdlfbikpniionaaGreatDoor
