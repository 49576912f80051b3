/-
  Layer 8 (canon): the document's example, which each statement asks first.
-/
import Derived.Test.YtdlfbikpniionaaGreatDoorCnTx
namespace Go.Proofs.YtdlfbikpniionaaGreatDoor
open Go.RowKit
namespace Cn
open Tr (Nd IsNode IsNodes Box4 node4 none0 good goods size sizes depth errOf fresh_one two RowAt)
open Gr (bs prN prL)

/-- A list of two nodes. -/
theorem row_two {x : World} {g : Nat} {T : TypeId} {a0 a1 a2 a3 b0 b1 b2 b3 : Value} (h : x.heap[g]? = some (.cells #[a0, a1, a2, a3, b0, b1, b2, b3] T (0, 0))) : RowAt x 4 g 0 [.agg #[a0, a1, a2, a3], .agg #[b0, b1, b2, b3]] := by
  intro i v hv
  match i, hv with
  | 0, hv =>
    obtain rfl : Value.agg #[a0, a1, a2, a3] = v := by simpa using hv
    refine ⟨rfl, fun j u hj => ?_⟩
    match j, hj with
    | 0, hj => rw [Lib.cell_of_heap h]; exact hj
    | 1, hj => rw [Lib.cell_of_heap h]; exact hj
    | 2, hj => rw [Lib.cell_of_heap h]; exact hj
    | 3, hj => rw [Lib.cell_of_heap h]; exact hj
    | j + 4, hj => simp [Value.cells] at hj
  | 1, hv =>
    obtain rfl : Value.agg #[b0, b1, b2, b3] = v := by simpa using hv
    refine ⟨rfl, fun j u hj => ?_⟩
    match j, hj with
    | 0, hj => rw [Lib.cell_of_heap h]; exact hj
    | 1, hj => rw [Lib.cell_of_heap h]; exact hj
    | 2, hj => rw [Lib.cell_of_heap h]; exact hj
    | 3, hj => rw [Lib.cell_of_heap h]; exact hj
    | j + 4, hj => simp [Value.cells] at hj
  | i + 2, hv => simp at hv
theorem nodes_two {x : World} {n m : Nd} {v u : Value} (hn : IsNode x n v) (hm : IsNode x m u) : IsNodes x [n, m] [v, u] := by
  rw [IsNodes]
  refine ⟨_, _, rfl, hn, ?_⟩
  rw [IsNodes]
  refine ⟨_, _, rfl, hm, ?_⟩
  rw [IsNodes]
/-- A node without kids. -/
theorem node_leaf (x : World) (k : Int) (a b : ByteArray) (ha : a.size ≤ maxLen) (hb : b.size ≤ maxLen) : IsNode x (.mk k a b []) (node4 k a b (.slice none 0 0)) := by
  rw [IsNode]
  refine ⟨none, 0, [], rfl, ⟨ha, hb⟩, fun h => absurd rfl h, ?_⟩
  rw [IsNodes]
theorem node_two {x : World} {g cap : Nat} {T : TypeId} {k : Int} {a b : ByteArray} {n m : Nd} {a0 a1 a2 a3 b0 b1 b2 b3 : Value} (ha : a.size ≤ maxLen) (hb : b.size ≤ maxLen) (h : x.heap[g]? = some (.cells #[a0, a1, a2, a3, b0, b1, b2, b3] T (0, 0)))
    (hn : IsNode x n (.agg #[a0, a1, a2, a3])) (hm : IsNode x m (.agg #[b0, b1, b2, b3])) : IsNode x (.mk k a b [n, m]) (node4 k a b (.slice (some ⟨g, 0, none⟩) 2 cap)) := by
  rw [IsNode]
  exact ⟨_, cap, _, rfl, ⟨ha, hb⟩, fun _ => ⟨g, 0, rfl, row_two h⟩, nodes_two hn hm⟩
theorem short {s : ByteArray} (h : s.size ≤ 100) : s.size ≤ maxLen := by unfold maxLen; omega

def exA : ByteArray := ⟨#[97]⟩
def exB : ByteArray := ⟨#[98]⟩
def exC : ByteArray := ⟨#[99]⟩
/-- The document's example. -/
def exN : Nd := .mk 5 none0 none0 [.mk 2 exA none0 [], .mk 4 none0 none0 [.mk 2 exB none0 [], .mk 2 exC none0 []]]
theorem ex_err : errOf exN = 0 := by decide +kernel
theorem ex_text : prN exN = [97, 32, 38, 32, 40, 98, 32, 124, 32, 99, 41] := by decide +kernel

abbrev s0 : ByteArray := ⟨#[]⟩
theorem ex_node (X : World) (s : Nat) (hs : X.heap.size = s) : IsNode ((X.alloc (.cells #[.int .i64 2, .string ⟨#[98]⟩, .string ⟨#[]⟩, .slice none 0 0, .int .i64 2, .string ⟨#[99]⟩, .string ⟨#[]⟩, .slice none 0 0] 45)).alloc
    (.cells #[.int .i64 2, .string ⟨#[97]⟩, .string ⟨#[]⟩, .slice none 0 0, .int .i64 4, .string ⟨#[]⟩, .string ⟨#[]⟩, .slice (some ⟨s, 0, none⟩) 2 2] 45)) exN (node4 5 s0 s0 (.slice (some ⟨s + 1, 0, none⟩) 2 2)) := by
  have h0 : s0.size ≤ maxLen := short (by decide)
  have e1 := heap_alloc_new X (.cells #[.int .i64 2, .string ⟨#[98]⟩, .string ⟨#[]⟩, .slice none 0 0, .int .i64 2, .string ⟨#[99]⟩, .string ⟨#[]⟩, .slice none 0 0] 45)
  have e2 := heap_alloc_new (X.alloc (.cells #[.int .i64 2, .string ⟨#[98]⟩, .string ⟨#[]⟩, .slice none 0 0, .int .i64 2, .string ⟨#[99]⟩, .string ⟨#[]⟩, .slice none 0 0] 45)) (.cells #[.int .i64 2, .string ⟨#[97]⟩, .string ⟨#[]⟩, .slice none 0 0, .int .i64 4, .string ⟨#[]⟩, .string ⟨#[]⟩, .slice (some ⟨s, 0, none⟩) 2 2] 45)
  rw [World.size_alloc, hs] at e2
  rw [hs] at e1
  have e3 := ((fresh_one (X.alloc (.cells #[.int .i64 2, .string ⟨#[98]⟩, .string ⟨#[]⟩, .slice none 0 0, .int .i64 2, .string ⟨#[99]⟩, .string ⟨#[]⟩, .slice none 0 0] 45)) (.cells #[.int .i64 2, .string ⟨#[97]⟩, .string ⟨#[]⟩, .slice none 0 0, .int .i64 4, .string ⟨#[]⟩, .string ⟨#[]⟩, .slice (some ⟨s, 0, none⟩) 2 2] 45)).block s (by rw [World.size_alloc]; omega)).trans e1
  exact node_two h0 h0 e2 (node_leaf _ 2 _ _ (short (by decide)) h0) (node_two h0 h0 e3 (node_leaf _ 2 _ _ (short (by decide)) h0) (node_leaf _ 2 _ _ (short (by decide)) h0))

set_option maxHeartbeats 2000000 in
set_option maxRecDepth 100000 in
theorem awake_any (w : World) : Calls Tryz.prog 5 #[] w fun e x => e = .returned (.bool true) ∧ Below w.heap.size w x := by
  have hE := fun X s hs => Expr_any exN _ _ (ex_node X s hs)
  rw [ex_text] at hE
  have HE := Lib.hid hE
  have al := fun (o p q r s : Obj) => ((((fresh_one w o).alloc (by simp) p).alloc (by simp; omega) q).alloc (by simp; omega) r).alloc (by simp; omega) s
  have A := Lib.hid al
  clear hE al
  go_enter Tryz.func5, Tryz.ntmps5
  go_wp2_with fail
  refine (HE.out _ _ (by simp)).mono ?_
  rintro e x ⟨hx, ⟨he, -⟩ | ⟨-, rfl⟩⟩
  · exact absurd ex_err he
  have HX := Lib.hid ((A.out _ _ _ _ _).trans (hx.mono (A.out _ _ _ _ _).size))
  have hs : ((bs [97, 32, 38, 32, 40, 98, 32, 124, 32, 99, 41]).toList == [97, 32, 38, 32, 40, 98, 32, 124, 32, 99, 41]) = true := by decide +kernel
  have HS := Lib.hid hs
  clear hx HE A hs
  go_wp2_with fail
  go_ret
  refine ⟨?_, HX.out⟩
  show Ending.returned (.bool ((bs [97, 32, 38, 32, 40, 98, 32, 124, 32, 99, 41]).toList == [97, 32, 38, 32, 40, 98, 32, 124, 32, 99, 41])) = _
  rw [HS.out]
end Cn
end Go.Proofs.YtdlfbikpniionaaGreatDoor
