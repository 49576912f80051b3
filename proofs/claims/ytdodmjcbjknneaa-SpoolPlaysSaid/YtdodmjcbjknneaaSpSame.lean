/-
  Layer 13's statements: whether two lists of records are the same.
-/
import Derived.Test.YtdodmjcbjknneaaSpSys
namespace Go.Proofs.Ytdodmjcbjknneaa
set_option maxRecDepth 100000
open Go.RowKit
open Knot (Turns NewRow)
open Ta (IsBytes Stay sec nul ptr IsT Tray)
open Tr (own_turn own_below own_slice IsElem append_rows addp)
namespace Sp
/-- A list of records, as it is read. -/
def IsRecs (w : World) (v : Value) (L : List (List UInt8)) : Prop :=
  ∃ ao cap, v = .slice ao L.length cap ∧ L.length ≤ cap ∧ cap ≤ maxLen ∧ (L ≠ [] → ∃ g o, ao = some ⟨g, o, none⟩ ∧ ∀ (i : Nat) (h : i < L.length), ∃ u, w.cell? ⟨g, o + i, none⟩ = some u ∧ IsBytes w u L[i])
section
variable {w x : World} {v : Value} {L : List (List UInt8)}
theorem IsRecs.below (h : IsRecs w v L) (hb : Below w.heap.size w x) : IsRecs x v L := by
  obtain ⟨ao, cap, hv, h1, h2, h3⟩ := h
  refine ⟨ao, cap, hv, h1, h2, fun hn => ?_⟩
  obtain ⟨g, o, e, hc⟩ := h3 hn
  refine ⟨g, o, e, fun i hi => ?_⟩
  obtain ⟨u, hu, hs⟩ := hc i hi
  exact ⟨u, (hb.cell (World.block_lt_of_cell? w _ hu)).trans hu, Ta.IsBytes.below hs hb⟩
theorem Recs.is {B : Nat} {G : Nat → Prop} (h : Recs B G w v L) : IsRecs w v L := by
  obtain ⟨vs, h1, h2⟩ := h
  rcases h1.2 with ⟨rfl, h0⟩ | ⟨g, cap, cur, rfl, hb, hg, hn, hc, hs, ht⟩
  · obtain rfl : L = [] := List.eq_nil_of_length_eq_zero h0
    exact ⟨none, 0, rfl, Nat.le_refl _, Nat.zero_le _, fun h => absurd rfl h⟩
  · refine ⟨_, cap, rfl, hn, hc, fun _ => ⟨g, 0, rfl, fun i hi => ?_⟩⟩
    obtain ⟨u, hu, hst⟩ := h2 i hi
    have hr : w.ownsRow B tBs 1 (.slice (some ⟨g, 0, none⟩) L.length cap) L.length vs := h1
    have h3 := hr.cellAt i (by omega)
    refine ⟨u, ?_, hst.now⟩
    rw [Nat.zero_add, h3]
    exact hu
theorem IsRecs.slice (h : IsRecs w v L) : ∃ ao cap, v = .slice ao L.length cap := by
  obtain ⟨ao, cap, rfl, -⟩ := h
  exact ⟨_, _, rfl⟩
/-- A record of a list. -/
theorem rec_at (h : IsRecs w v L) {i : Nat} (hi : i < L.length) : ∃ g q u, (∀ W, (Instr.indexAt tBss v (.int .i64 (i : Int))).run Try.prog W = .ok (.pointer (some ⟨g, q, none⟩)) W) ∧ w.cell? ⟨g, q, none⟩ = some u ∧ IsBytes w u L[i] := by
  obtain ⟨ao, cap, rfl, h1, h2, h3⟩ := h
  obtain ⟨g, o, rfl, hc⟩ := h3 (fun e => by rw [e] at hi; simp at hi)
  obtain ⟨u, hu, hs⟩ := hc i hi
  refine ⟨g, o + i, u, fun W => ?_, hu, hs⟩
  have hz : ∀ w, (sizeOf (Try.prog.elem tBss)).run Try.prog w = .ok 1 w := fun w => by kernel_rfl
  have : L.length ≤ 9223372036854775807 := Nat.le_trans h1 (Nat.le_trans h2 (by decide))
  rw [run_indexAt_slice W _ _ _ _ _ _ Try.underlying42, if_pos ⟨by omega, by omega⟩, hz]
  have e : ((i : Int)).toNat = i := by omega
  simp only [Result.andThen_ok, e, Addr.add_lit, Nat.mul_one]
end
/-- Bytes as a text. -/
theorem bytes_str {w : World} {u : Value} {b : List UInt8} (h : IsBytes w u b) : (convert 22 9 u).run Try.prog w = .ok (.string (Ta.str b)) w := by
  obtain ⟨ao, cap, rfl, h1, h2, h3⟩ := h
  by_cases hb : b.length = 0
  · obtain rfl : b = [] := List.eq_nil_of_length_eq_zero hb
    cases ao with
    | none => kernel_rfl
    | some a => exact run_convert_bytes_back (P := Try.prog) w 22 9 5 a cap [] Try.underlying22 Try.underlying5 Try.underlying9 (fun j hj => by simp at hj)
  · obtain ⟨g, o, rfl, hc⟩ := h3 hb
    exact run_convert_bytes_back (P := Try.prog) w 22 9 5 ⟨g, o, none⟩ cap b Try.underlying22 Try.underlying5 Try.underlying9 (fun j hj => by
      rw [addp]
      exact hc j _ (by simp [Lib.byteCells, hj]))
theorem str_inj {a b : List UInt8} : ((Ta.str a).toList == (Ta.str b).toList) = decide (a = b) := by
  have e : ∀ l : List UInt8, (Ta.str l).toList = l := fun l => by
    rw [ByteArray.toList_eq]
    simp [Ta.str]
  rw [e, e, Bool.eq_iff_iff]
  simp
section
variable {w : World}
set_option maxHeartbeats 8000000 in
set_option maxRecDepth 100000 in
theorem same_any (v1 v2 : Value) (L M : List (List UInt8)) (h1 : IsRecs w v1 L) (h2 : IsRecs w v2 M) : Calls Try.prog 17 #[v1, v2] w fun e x => e = .returned (.bool (decide (L = M))) ∧ Below w.heap.size w x := by
  have H := Lib.hid (And.intro h1 h2)
  obtain ⟨a1, c1, rfl, g1, g2, -⟩ := h1
  obtain ⟨a2, c2, rfl, -, -, -⟩ := h2
  have hbig : L.length ≤ 9223372036854775807 := by unfold maxLen at g2; omega
  clear g1 g2
  by_cases hl : L.length = M.length
  · have e1 : ((L.length : Int) != (M.length : Int)) = false := by simp [hl]
    have HLe := Lib.hid hl
    clear hl
    go_enter Try.func17, Try.ntmps17
    go_wp2_with fail
    go_loopw [13] (fun i x => ∃ j : Nat, j ≤ L.length ∧ i = .int .i64 (j : Int) ∧ Hid (Below w.heap.size w x ∧ L.take j = M.take j)) (fun i _ => L.length - (intOf i).toNat)
    case atStart => exact ⟨0, by omega, rfl, Below.refl _ _, rfl⟩
    case round =>
      obtain ⟨j, hj, rfl, HX⟩ := hrel
      by_cases hlt : j < L.length
      · have hlm : j < M.length := by have := HLe.out; omega
        obtain ⟨g, q, u, hix, hu, hbu⟩ := rec_at (H.out.1.below HX.out.1) hlt
        obtain ⟨g', q', u', hix', hu', hbu'⟩ := rec_at (H.out.2.below HX.out.1) hlm
        have hcv := fun m => bytes_str (Ta.IsBytes.below hbu (below_drewN (Below.refl wr.heap.size wr) m))
        have hcv' := fun m => bytes_str (Ta.IsBytes.below hbu' (below_drewN (Below.refl wr.heap.size wr) m))
        have hnx : L.take (j + 1) = M.take (j + 1) ↔ L[j] = M[j] := by
          rw [List.take_succ_eq_append_getElem hlt, List.take_succ_eq_append_getElem hlm, HX.out.2]
          constructor
          · intro h
            exact List.head_eq_of_cons_eq (List.append_cancel_left h)
          · intro h
            rw [h]
        have hne : (((Ta.str L[j]).toList != (Ta.str M[j]).toList)) = !decide (L[j] = M[j]) := by rw [bne, str_inj]
        have hix2 : (0 : Int) ≤ (j : Int) := by omega
        have HN := Lib.hid (And.intro hnx hne)
        by_cases hsame : L[j] = M[j]
        · have hq : ((Ta.str L[j]).toList != (Ta.str M[j]).toList) = false := by rw [hne]; simp [hsame]
          have hq2 : ((Ta.str L[j]).toList == (Ta.str M[j]).toList) = true := by rw [str_inj]; simp [hsame]
          have HSm := Lib.hid hsame
          clear hnx hne hsame
          generalize Ta.str L[j] = A at *
          generalize Ta.str M[j] = B at *
          go_wp2_with fail
          go_quiet (fail)
          go_wp2_with fail
          go_roundw
          case rel => exact ⟨j + 1, by omega, by go_num, ⟨below_drewN HX.out.1 _, HN.out.1.2 HSm.out⟩⟩
          case measure => simp [intOf]; omega
        · have hq : ((Ta.str L[j]).toList != (Ta.str M[j]).toList) = true := by rw [hne]; simp [hsame]
          have hq2 : ((Ta.str L[j]).toList == (Ta.str M[j]).toList) = false := by rw [str_inj]; simp [hsame]
          have HF := Lib.hid (show decide (L = M) = false from decide_eq_false fun h => hsame (by subst h; rfl))
          clear hnx hne hsame
          generalize Ta.str L[j] = A at *
          generalize Ta.str M[j] = B at *
          go_wp2_with fail
          go_quiet (fail)
          go_wp2_with fail
          go_ret
          exact ⟨by rw [HF.out]; rfl, below_drewN HX.out.1 _⟩
      · have hjl : j = L.length := by omega
        have HE := Lib.hid (show decide (L = M) = true from decide_eq_true (by
          have h := HX.out.2
          rwa [hjl, List.take_length, HLe.out, List.take_length] at h))
        have hnl : ¬ (j : Int) < (L.length : Int) := by omega
        clear hlt hjl
        go_wp2_with fail
        go_ret
        exact ⟨by rw [HE.out]; rfl, HX.out.1⟩
  · have e1 : ((L.length : Int) != (M.length : Int)) = true := by simp; omega
    have HF := Lib.hid (show decide (L = M) = false from decide_eq_false fun h => hl (by rw [h]))
    clear hl
    go_enter Try.func17, Try.ntmps17
    go_wp2_with fail
    go_ret
    exact ⟨by rw [HF.out]; rfl, Below.refl _ _⟩
end
end Sp
end Go.Proofs.Ytdodmjcbjknneaa
