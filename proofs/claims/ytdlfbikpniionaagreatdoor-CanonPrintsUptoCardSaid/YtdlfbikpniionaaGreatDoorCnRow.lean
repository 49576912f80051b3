/-
  A row of texts that a call makes and fills one by one.
-/
import Derived.Test.YtdlfbikpniionaaGreatDoorCnJoin
import Derived.Laws.MakeOwn
namespace Go.Proofs.YtdlfbikpniionaaGreatDoor
open Go.RowKit
namespace Cn

/-- A row of n texts, of which the first ones are known. -/
def Texts (b n : Nat) (T : List ByteArray) (w : World) : Prop :=
  ∃ cur : Array Value, w.heap[b]? = some (.cells cur 9 (0, 0)) ∧ cur.size = n ∧ ∀ (i : Nat) (u : ByteArray), T[i]? = some u → cur[i]? = some (.string u)
theorem Texts.lt {b n : Nat} {T : List ByteArray} {w : World} (h : Texts b n T w) : b < w.heap.size := by
  obtain ⟨_, h, -⟩ := h
  exact (Array.getElem?_eq_some_iff.1 h).1
theorem Texts.on {b n : Nat} {T : List ByteArray} {w x : World} (h : Texts b n T w) (hb : Below w.heap.size w x) : Texts b n T x := by
  have hl := h.lt
  obtain ⟨cur, h1, h2⟩ := h
  exact ⟨cur, (hb.block b hl).trans h1, h2⟩
theorem Texts.cell {b n : Nat} {T : List ByteArray} {w : World} (h : Texts b n T w) {i : Nat} {u : ByteArray} (hi : T[i]? = some u) : w.cell? ⟨b, i, none⟩ = some (.string u) := by
  obtain ⟨cur, h1, -, h2⟩ := h
  rw [Lib.cell_of_heap h1]
  exact h2 i u hi
theorem Texts.any {b n : Nat} {T : List ByteArray} {w : World} (h : Texts b n T w) {i : Nat} (hi : i < n) : ∃ o, w.cell? ⟨b, i, none⟩ = some o := by
  obtain ⟨cur, h1, h2, -⟩ := h
  rw [Lib.cell_of_heap h1]
  exact ⟨_, Array.getElem?_eq_getElem (by omega)⟩
theorem Texts.free {b n : Nat} {T : List ByteArray} {w : World} (h : Texts b n T w) (i : Nat) : w.frozen? ⟨b, i, none⟩ = false := by
  obtain ⟨cur, h1, -⟩ := h
  exact Lib.frozen_of_heap h1 i
theorem Texts.put {b n j : Nat} {T : List ByteArray} {w : World} (h : Texts b n T w) (hT : T.length = j) (hj : j < n) (s : ByteArray) : Texts b n (T ++ [s]) (w.setCell ⟨b, j, none⟩ (.string s)) := by
  obtain ⟨cur, h1, h2, h3⟩ := h
  refine ⟨cur.setIfInBounds j (.string s), Lib.heap_setCell_same h1 _, by rw [Array.size_setIfInBounds]; exact h2, fun i u hi => ?_⟩
  rw [Array.getElem?_setIfInBounds]
  by_cases e : j = i
  · subst e
    rw [if_pos rfl, if_pos (by omega)]
    rw [List.getElem?_append_right (by omega), hT, Nat.sub_self] at hi
    have : s = u := by simpa using hi
    rw [this]
  · rw [if_neg e]
    have hlen := (List.getElem?_eq_some_iff.1 hi).1
    rw [List.length_append, List.length_singleton] at hlen
    rw [List.getElem?_append_left (by omega)] at hi
    exact h3 i u hi
theorem Texts.less {b n : Nat} {T U : List ByteArray} {w : World} (h : Texts b n (T ++ U) w) : Texts b n T w := by
  obtain ⟨cur, h1, h2, h3⟩ := h
  exact ⟨cur, h1, h2, fun i u hi => h3 i u (by rw [List.getElem?_append_left (List.getElem?_eq_some_iff.1 hi).1]; exact hi)⟩
theorem Texts.again {b n j : Nat} {T : List ByteArray} {w : World} {s : ByteArray} (h : Texts b n (T ++ [s]) w) (hT : T.length = j) (hj : j < n) (s' : ByteArray) : Texts b n (T ++ [s']) (w.setCell ⟨b, j, none⟩ (.string s')) := h.less.put hT hj s'
theorem Texts.last {b n j : Nat} {T : List ByteArray} {w : World} {s : ByteArray} (h : Texts b n (T ++ [s]) w) (hT : T.length = j) : w.cell? ⟨b, j, none⟩ = some (.string s) := h.cell (by rw [List.getElem?_append_right (by omega), hT, Nat.sub_self]; rfl)
set_option maxRecDepth 100000 in
theorem strs_info : ∃ i z, Tryz.prog.info? 9 = some i ∧ i.zero = some z ∧ i.size = 1 ∧ z.cells = #[z] ∧ i.bytes ≤ 100 := by
  refine ⟨_, .string ⟨#[]⟩, rfl, by kernel_rfl, by kernel_rfl, by kernel_rfl, ?_⟩
  exact of_decide_eq_true (by kernel_rfl)
/-- A row of texts is made. -/
theorem make_texts (n : Nat) (hn : n ≤ 100000) : ∃ c : Array Value, (∀ W : World, (Instr.makeSlice 114 (.int .i64 (n : Int)) (.int .i64 (n : Int))).run Tryz.prog W = .ok (.slice (some ⟨W.heap.size, 0, none⟩) n n) (W.alloc (.cells c 9))) ∧ ∀ W : World, Texts W.heap.size n [] (W.alloc (.cells c 9)) := by
  obtain ⟨i, z, hi, hz, hs, hz1, hb⟩ := strs_info
  refine ⟨madeCells #[z] n, fun W => ?_, fun W => ⟨_, heap_alloc_new W _, size_madeCells _ _, fun i u h => by simp at h⟩⟩
  have h := run_make (P := Tryz.prog) W 114 9 i z Tryz.underlying114 hi hz .i64 .i64 (n : Int) (n : Int) (by omega) (by omega) (by
    have h1 : i.bytes * n ≤ 100 * n := Nat.mul_le_mul_right _ hb
    have h2 : ((i.bytes * n : Nat) : Int) ≤ ((100 * n : Nat) : Int) := by omega
    rw [Int.natCast_mul] at h2
    omega) (by omega)
  rw [hs, hz1, Nat.mul_one] at h
  simpa using h
end Cn
end Go.Proofs.YtdlfbikpniionaaGreatDoor
