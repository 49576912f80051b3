/-
  Layer 14: slices.Chunk over bytes, 128 at a time: the iterator's contract.
-/
import Derived.RangeFuncNested
import Derived.RangeFuncBound
import Derived.RangeFuncCalls
import Derived.RangeFuncLeaves
import Derived.Shelf.Abstract
import Derived.Shelf.RegionOpen
import Derived.WalkKit
import Derived.OwnWalkIn
import Derived.TacticsInMore
import Derived.LoopNIn
import Derived.LoopIn
import Derived.Test.YtkfmmdiflbnhgaaHoTr
namespace Go.Proofs.Ytkfmmdiflbnhgaa
set_option maxRecDepth 100000
open Go.RowKit Go.Shelf
open Ta (IsBytes sec nul ptr)
attribute [local go_sem] Oper.semAt_some
namespace Ho
abbrev tBy : TypeId := 22
/-- How many sectors so many bytes take. -/
def tk (L : Nat) : Nat := (L + 127) / 128
/-- The slice of the k-th sector's bytes. -/
def chA (ao : Option Addr) (k : Nat) : Option Addr := ao.map (·.add (k * 128 * 1))
def chV (ao : Option Addr) (L k : Nat) : Value := .slice (chA ao k) (min (k * 128 + 128) L - k * 128) (min (k * 128 + 128) L - k * 128)
theorem chV_at (ao : Option Addr) (L cap k : Nat) (hc : L ≤ cap) (hk : k * 128 < L) (W : World) : (Instr.sliceAt tBy (.slice ao L cap) (some (.int .i64 ((k : Int) * 128))) (some (.int .i64 ((min (k * 128 + 128) L : Nat) : Int))) (some (.int .i64 ((min (k * 128 + 128) L : Nat) : Int)))).run Try.prog W = .ok (chV ao L k) W := by
  have hz : ∀ W, (sizeOf (Try.prog.elem tBy)).run Try.prog W = .ok 1 W := fun w => by kernel_rfl
  have hel : Try.prog.underlying tBy = some (.slice (Try.prog.elem tBy)) := by kernel_rfl
  rw [run_sliceAt_slice (P := Try.prog) W _ _ _ _ _ hel, run_slice_lhm (P := Try.prog) W _ ao L cap hel .i64 .i64 .i64 ((k : Int) * 128) _ _ (by omega) (by omega) (by omega) (by omega), hz]
  simp only [Result.andThen_ok, sliced]
  rw [show ((k : Int) * 128).toNat = k * 128 by omega, Int.toNat_natCast, if_neg (by omega)]
  rfl
theorem chV_tail (ao : Option Addr) (L cap k : Nat) (_hc : L ≤ cap) (hk : k * 128 < L) : ∃ a c, ∀ W : World, (Instr.sliceAt tBy (.slice ao L cap) (some (.int .i64 ((k : Int) * 128))) none none).run Try.prog W = .ok (.slice a (L - k * 128) c) W := by
  have hz : ∀ W, (sizeOf (Try.prog.elem tBy)).run Try.prog W = .ok 1 W := fun w => by kernel_rfl
  have hel : Try.prog.underlying tBy = some (.slice (Try.prog.elem tBy)) := by kernel_rfl
  refine ⟨if cap = k * 128 then ao else ao.map (·.add (k * 128 * 1)), cap - k * 128, fun W => ?_⟩
  rw [run_sliceAt_slice (P := Try.prog) W _ _ _ _ _ hel, run_slice_l (P := Try.prog) W _ ao L cap hel .i64 ((k : Int) * 128) (by omega) (by omega), hz]
  simp only [Result.andThen_ok, sliced]
  rw [show ((k : Int) * 128).toNat = k * 128 by omega]
theorem chV_bytes {y : World} {ao : Option Addr} {cap k : Nat} {b : List UInt8} (hy : IsBytes y (.slice ao b.length cap) b) (hk : k * 128 < b.length) : IsBytes y (chV ao b.length k) (chk b k) := by
  obtain ⟨ao', cap', e, g1, g2, g3⟩ := hy
  obtain ⟨rfl, -, rfl⟩ := Value.slice.inj e
  have hcl := chk_len b k
  refine ⟨_, _, by rw [chV, ← hcl], by rw [hcl]; exact Nat.le_refl _, Nat.le_trans (by omega) g2, fun hne => ?_⟩
  obtain ⟨g, o, rfl, hc⟩ := g3 (by omega)
  refine ⟨g, o + k * 128, by simp [chA, Tr.addp], fun j u hj => ?_⟩
  have hj' := (List.getElem?_eq_some_iff.1 hj).1
  rw [Lib.byteCells_length] at hj'
  have hjb : k * 128 + j < b.length := by omega
  rw [Nat.add_assoc]
  refine hc (k * 128 + j) u ?_
  rw [← hj]
  have h108 : j < 128 := by have := chk_le b k; omega
  simp [Lib.byteCells, chk, h108]
theorem tk_lt {L k : Nat} : k < tk L ↔ k * 128 < L := by unfold tk; omega
/-- What a round keeps: the two boxes that the iterator reads. -/
def Kq (Bs Bn : Nat) (x y : World) : Prop := y.heap[Bs]? = x.heap[Bs]? ∧ y.heap[Bn]? = x.heap[Bn]?
theorem Kq.t {Bs Bn : Nat} {x y z : World} (h : Kq Bs Bn x y) (k : Kq Bs Bn y z) : Kq Bs Bn x z := ⟨k.1.trans h.1, k.2.trans h.2⟩
set_option maxRecDepth 100000 in
set_option maxHeartbeats 4000000 in
theorem chunk1_in (n : Nat) (hn : 1 ≤ n) (l Bs Bn : Nat) (ao : Option Addr) (L cap : Nat) (hcap : L ≤ cap) (hL : L ≤ 1000000) (J Jx : List (Fin (tk L)) → World → Prop) (W : World) (hJ : AbidesFrom W.heap.size J)
    (hY : ∀ pre x W1, J pre W1 → pre.length < tk L → YieldAt Fence.wide (n - 1) Try.prog l #[chV ao L x.1] W1 fun e W' =>
      (e = .returned (.bool true) ∧ J (pre ++ [x]) W' ∧ Kq Bs Bn W1 W') ∨ (e = .returned (.bool false) ∧ Jx (pre ++ [x]) W'))
    (hBs : W.heap[Bs]? = some (.cells #[.slice ao L cap] tBy (0, 0))) (hBn : W.heap[Bn]? = some (.cells #[.int .i64 128] 3 (0, 0))) (h0 : J [] W) :
    CallsIn Fence.wide n Try.prog 93 #[.func (.yield l) #[] #[], .pointer (some ⟨Bs, 0, none⟩), .pointer (some ⟨Bn, 0, none⟩)] W fun e W' => (∃ v, e = .returned v) ∧
      ((∃ xs, xs.map Fin.val = List.range (tk L) ∧ J xs W') ∨ (∃ pre, (∃ k, k ≤ tk L ∧ pre.map Fin.val = List.range k) ∧ Jx pre W')) := by
  refine callsIn_of_wp Try.func93 rfl trivial ?_ rfl
  simp only [Try.ntmps93, List.size_toArray, List.length_cons, List.length_nil, Nat.reduceAdd, Nat.reduceSub, Array.replicate_succ, Array.replicate_zero, List.push_toArray, List.append_toArray, List.nil_append, List.cons_append]
  gi_wp2
  gi_loopw [4] (fun i wr => ∃ k : Nat, k ≤ tk L ∧ i = .int .i64 ((k : Int) * 128) ∧ ∃ pre : List (Fin (tk L)), pre.map Fin.val = List.range k ∧ J pre wr ∧ wr.heap[Bs]? = some (.cells #[.slice ao L cap] tBy (0, 0)) ∧ wr.heap[Bn]? = some (.cells #[.int .i64 128] 3 (0, 0)))
    (fun i _ => 1000200 - (intOf i).toNat)
  case atStart => exact ⟨0, Nat.zero_le _, rfl, [], rfl, h0, hBs, hBn⟩
  case round =>
    obtain ⟨k, hk, rfl, pre, hpre, hJs, k1, k2⟩ := hrel
    have c1 := Lib.cell_of_heap k1 0
    have c2 := Lib.cell_of_heap k2 0
    simp only [List.getElem?_toArray, List.getElem?_cons_zero] at c1 c2
    by_cases hlt : k < tk L
    · have hkl := tk_lt.1 hlt
      have e1 : (k : Int) * 128 < (L : Int) := by omega
      obtain ⟨a', c', htl⟩ := chV_tail ao L cap k hcap hkl
      have hch := chV_at ao L cap k hcap hkl
      gi_wp2
      gi_quiet (fail)
      obtain ⟨M, hM⟩ : ∃ M, M = min (k * 128 + 128) L - k * 128 := ⟨_, rfl⟩
      have hMm : (if ((L - k * 128 : Nat) : Int) < 128 then ((L - k * 128 : Nat) : Int) else 128) = (M : Int) := by
        split <;> omega
      rw [hMm]
      obtain ⟨X, hX⟩ : ∃ X, X = wr.drewN nq := ⟨_, rfl⟩
      have hJX : J pre X := by rw [hX]; exact hJ pre wr (wr.drewN nq) none hJs ⟨rfl, rfl, rfl, Nat.le_refl _, fun _ _ _ => rfl⟩ (fun r e => by cases e)
      have k1X : X.heap[Bs]? = some (.cells #[.slice ao L cap] tBy (0, 0)) := by rw [hX]; exact k1
      have k2X : X.heap[Bn]? = some (.cells #[.int .i64 128] 3 (0, 0)) := by rw [hX]; exact k2
      rw [← hX]
      clear hX hJs k1 k2 c1 c2 htl hMm
      have c1 := Lib.cell_of_heap k1X 0
      simp only [List.getElem?_toArray, List.getElem?_cons_zero] at c1
      rw [show ((min (k * 128 + 128) L : Nat) : Int) = (k : Int) * 128 + (M : Int) by omega] at hch
      obtain ⟨fn, tmps, assign, body, hy, hR⟩ := hY pre ⟨k, hlt⟩ X hJX (by have := congrArg List.length hpre; simp at this; omega)
      dsimp only at hy
      obtain ⟨cv, hcv⟩ : ∃ cv, cv = chV ao L k := ⟨_, rfl⟩
      rw [← hcv] at hy hch
      have hM1 : M ≤ 128 := by omega
      have hM2 : k * 128 + M ≤ 1000000 := by omega
      clear hM hcv
      gi_wp2
      refine hR.mono ?_
      rintro e W3 (⟨rfl, hJ3, hk3⟩ | ⟨rfl, hJx3⟩)
      · have k1Y := hk3.1.trans k1X
        have k2Y := hk3.2.trans k2X
        have d2 := Lib.cell_of_heap k2Y 0
        simp only [List.getElem?_toArray, List.getElem?_cons_zero] at d2
        gi_wp2
        go_roundw
        case rel => exact ⟨k + 1, by omega, by simp; omega, pre ++ [⟨k, hlt⟩], by rw [List.map_append, hpre, List.range_succ]; rfl, hJ3, k1Y, k2Y⟩
        case measure => simp [intOf]; omega
      · gi_wp2
        refine bodyPost_ret (results_none rfl _ _ _) rfl ?_
        exact ⟨⟨_, rfl⟩, .inr ⟨pre ++ [⟨k, hlt⟩], ⟨k + 1, by omega, by rw [List.map_append, hpre, List.range_succ]; rfl⟩, hJx3⟩⟩
    · obtain rfl : k = tk L := by omega
      have hnl : ¬ (tk L : Int) * 128 < (L : Int) := by unfold tk; omega
      gi_wp2
      go_end0
      exact ⟨⟨_, rfl⟩, .inl ⟨pre, hpre, hJs⟩⟩
theorem chunk_stops (n : Nat) (hn : 1 ≤ n) (Bs Bn : Nat) (ao : Option Addr) (L cap : Nat) (hcap : L ≤ cap) (hL : L ≤ 1000000) (w : World) (hBs : w.heap[Bs]? = some (.cells #[.slice ao L cap] tBy (0, 0))) (hBn : w.heap[Bn]? = some (.cells #[.int .i64 128] 3 (0, 0))) :
    SeqStopsK Fence.wide n Try.prog 93 #[.pointer (some ⟨Bs, 0, none⟩), .pointer (some ⟨Bn, 0, none⟩)] (fun x : Fin (tk L) => #[chV ao L x.1]) (Kq Bs Bn) (fun xs => xs.map Fin.val = List.range (tk L)) (fun pre => ∃ k, k ≤ tk L ∧ pre.map Fin.val = List.range k) (tk L) w := fun l J Jx W hW hJ _ hY h0 =>
  chunk1_in n hn l Bs Bn ao L cap hcap hL J Jx W hJ hY ((hW.block Bs (Array.getElem?_eq_some_iff.1 hBs).1).trans hBs) ((hW.block Bn (Array.getElem?_eq_some_iff.1 hBn).1).trans hBn) h0
set_option maxHeartbeats 4000000 in
theorem chunk_any (ao : Option Addr) (L cap : Nat) (w : World) : Calls Try.prog 85 #[.slice ao L cap, .int .i64 128] w fun e x => e = .returned (.func (.func 93) #[] #[.pointer (some ⟨w.heap.size, 0, none⟩), .pointer (some ⟨w.heap.size + 1, 0, none⟩)]) ∧ x = (w.alloc (.cells #[.slice ao L cap] tBy)).alloc (.cells #[.int .i64 128] 3) := by
  go_enter Try.func85, Try.ntmps85
  go_wp2_with fail
  go_ret
  exact ⟨rfl, rfl⟩
end Ho
end Go.Proofs.Ytkfmmdiflbnhgaa
