/-
  Layer 5 (tract): nodes that lie in memory.
-/
import Derived.Test.YtbphmaoomnocmaaDoorHeld
import Derived.Test.YtbphmaoomnocmaaDoorTrPure
import Derived.Test.YtbphmaoomnocmaaDoorTurn
namespace Go.Proofs.YtbphmaoomnocmaaDoor
open Go.RowKit
namespace Tr
open Knot (Turns)

/-- A row of elements, each of so many cells. -/
def RowAt (w : World) (c : Nat) (g o : Nat) (vs : List Value) : Prop :=
  ∀ i v, vs[i]? = some v → v.cells.size = c ∧ ∀ j u, v.cells[j]? = some u → w.cell? ⟨g, o + i * c + j, none⟩ = some u
abbrev node4 (k : Int) (a b : ByteArray) (s : Value) : Value := .agg #[.int .i64 k, .string a, .string b, s]
mutual
/-- A node that lies in memory. -/
def IsNode (w : World) : Nd → Value → Prop
  | .mk k a b l, v => ∃ ao cap vs, v = node4 k a b (.slice ao l.length cap) ∧ (a.size ≤ maxLen ∧ b.size ≤ maxLen) ∧ (l ≠ [] → ∃ g o, ao = some ⟨g, o, none⟩ ∧ RowAt w 4 g o vs) ∧ IsNodes w l vs
def IsNodes (w : World) : List Nd → List Value → Prop
  | [], vs => vs = []
  | n :: r, vs => ∃ v vr, vs = v :: vr ∧ IsNode w n v ∧ IsNodes w r vr
end
theorem IsNodes.len {w : World} : ∀ {l : List Nd} {vs : List Value}, IsNodes w l vs → vs.length = l.length
  | [], vs, h => by rw [IsNodes] at h; rw [h]; rfl
  | n :: r, vs, h => by
    rw [IsNodes] at h
    obtain ⟨v, vr, rfl, -, hr⟩ := h
    rw [List.length_cons, List.length_cons, IsNodes.len hr]
theorem IsNodes.at {w : World} : ∀ {l : List Nd} {vs : List Value}, IsNodes w l vs → ∀ {i : Nat} (h : i < l.length), ∃ v, vs[i]? = some v ∧ IsNode w l[i] v
  | n :: r, vs, h, i, hi => by
    rw [IsNodes] at h
    obtain ⟨v, vr, rfl, hn, hr⟩ := h
    match i, hi with
    | 0, _ => exact ⟨v, rfl, hn⟩
    | i + 1, hi =>
      obtain ⟨u, hu, hn'⟩ := IsNodes.at hr (i := i) (by simpa using hi)
      exact ⟨u, by simpa using hu, by simpa using hn'⟩
theorem IsNodes.of {w : World} : ∀ {l : List Nd} {vs : List Value}, vs.length = l.length → (∀ (i : Nat) (h : i < l.length) (v : Value), vs[i]? = some v → IsNode w l[i] v) → IsNodes w l vs
  | [], vs, hl, _ => by rw [IsNodes]; exact List.eq_nil_of_length_eq_zero hl
  | n :: r, [], hl, _ => by simp at hl
  | n :: r, v :: vr, hl, h => by
    rw [IsNodes]
    refine ⟨v, vr, rfl, h 0 (by simp) v rfl, IsNodes.of (by simpa using hl) fun i hi u hu => ?_⟩
    have := h (i + 1) (by simpa using hi) u (by simpa using hu)
    simpa using this
theorem RowAt.turn {w x : World} {F : Nat → Prop} {c g o : Nat} {vs : List Value} (h : RowAt w c g o vs) (ht : Turns F w x) (hF : ¬ F g) : RowAt x c g o vs := fun i v hv => by
  obtain ⟨h1, h2⟩ := h i v hv
  refine ⟨h1, fun j u hu => ?_⟩
  have h3 := h2 j u hu
  exact (ht.cell (p := ⟨g, o + i * c + j, none⟩) (World.block_lt_of_cell? w _ h3) hF).trans h3
theorem RowAt.below {w x : World} {c g o : Nat} {vs : List Value} (h : RowAt w c g o vs) (hb : Below w.heap.size w x) : RowAt x c g o vs := h.turn (F := fun _ => False) (Turns.of_below hb) id
/-- A row that lies in a world whose old blocks stay, lies in the new one. -/
theorem IsNode.on {w x : World} (hr : ∀ c g o vs, RowAt w c g o vs → RowAt x c g o vs) : ∀ (k : Nat) (n : Nd) (v : Value), size n ≤ k → IsNode w n v → IsNode x n v
  | 0, n, _, h, _ => by have := size_pos n; omega
  | k + 1, .mk q a b l, v, h, hn => by
    rw [IsNode] at hn ⊢
    obtain ⟨ao, cap, vs, rfl, hs, hrow, hk⟩ := hn
    refine ⟨ao, cap, vs, rfl, hs, fun hl => ?_, ?_⟩
    · obtain ⟨g, o, e, h1⟩ := hrow hl
      exact ⟨g, o, e, hr _ _ _ _ h1⟩
    · refine IsNodes.of hk.len fun i hi u hu => ?_
      obtain ⟨u', hu', hn'⟩ := hk.at hi
      rw [hu] at hu'
      cases hu'
      refine IsNode.on hr k _ _ ?_ hn'
      have := sizes_mem (List.getElem_mem hi)
      rw [size] at h
      omega
theorem IsNode.below {w x : World} {n : Nd} {v : Value} (h : IsNode w n v) (hb : Below w.heap.size w x) : IsNode x n v := IsNode.on (fun _ _ _ _ h => h.below hb) (size n) n v (Nat.le_refl _) h
theorem IsNodes.below {w x : World} {l : List Nd} {vs : List Value} (h : IsNodes w l vs) (hb : Below w.heap.size w x) : IsNodes x l vs :=
  IsNodes.of h.len fun i hi u hu => by
    obtain ⟨u', hu', hn'⟩ := h.at hi
    rw [hu] at hu'
    cases hu'
    exact hn'.below hb
/-- A node, opened. -/
theorem IsNode.open {w : World} {n : Nd} {v : Value} (h : IsNode w n v) : ∃ ao cap vs, v = node4 n.kind n.ta n.tb (.slice ao n.kids.length cap) ∧ (n.ta.size ≤ maxLen ∧ n.tb.size ≤ maxLen) ∧ (n.kids ≠ [] → ∃ g o, ao = some ⟨g, o, none⟩ ∧ RowAt w 4 g o vs) ∧ IsNodes w n.kids vs := by
  cases n
  rw [IsNode] at h
  exact h
theorem IsNode.shut {w : World} {n : Nd} {ao : Option Addr} {cap : Nat} {vs : List Value} (hs : n.ta.size ≤ maxLen ∧ n.tb.size ≤ maxLen) (hr : n.kids ≠ [] → ∃ g o, ao = some ⟨g, o, none⟩ ∧ RowAt w 4 g o vs) (hk : IsNodes w n.kids vs) :
    IsNode w n (node4 n.kind n.ta n.tb (.slice ao n.kids.length cap)) := by
  cases n
  rw [IsNode]
  exact ⟨ao, cap, vs, rfl, hs, hr, hk⟩
theorem elemN : Tryd.prog.underlying 23 = some (.slice (Tryd.prog.elem 23)) := by kernel_rfl
theorem sizeN : ∀ w, (sizeOf (Tryd.prog.elem 23)).run Tryd.prog w = .ok 4 w := fun w => by kernel_rfl
/-- A kid of a node: where it lies. -/
theorem kid_at {w : World} {l : List Nd} {ao : Option Addr} {cap : Nat} {vs : List Value} (hr : l ≠ [] → ∃ g o, ao = some ⟨g, o, none⟩ ∧ RowAt w 4 g o vs) (hk : IsNodes w l vs) {i : Nat} (hi : i < l.length) :
    ∃ g q sa sc, (∀ W, (Instr.indexAt 23 (.slice ao l.length cap) (.int .i64 (i : Int))).run Tryd.prog W = .ok (.pointer (some ⟨g, q, none⟩)) W) ∧ g < w.heap.size ∧
      w.cell? ⟨g, q, none⟩ = some (.int .i64 l[i].kind) ∧ w.cell? ⟨g, q + 1, none⟩ = some (.string l[i].ta) ∧ w.cell? ⟨g, q + 2, none⟩ = some (.string l[i].tb) ∧ w.cell? ⟨g, q + 3, none⟩ = some (.slice sa l[i].kids.length sc) ∧
      IsNode w l[i] (node4 l[i].kind l[i].ta l[i].tb (.slice sa l[i].kids.length sc)) := by
  obtain ⟨g, o, rfl, hrow⟩ := hr (fun e => by rw [e] at hi; simp at hi)
  obtain ⟨v, hv, hn⟩ := hk.at hi
  obtain ⟨-, hc⟩ := hrow i v hv
  obtain ⟨ao', cap', vs', hv', -⟩ := hn.open
  subst hv'
  have c0 := hc 0 _ rfl
  refine ⟨g, o + i * 4, _, _, fun W => ?_, World.block_lt_of_cell? w _ c0, c0, hc 1 _ rfl, hc 2 _ rfl, hc 3 _ rfl, hn⟩
  rw [run_indexAt_slice W _ _ _ _ _ _ elemN, if_pos ⟨by omega, by omega⟩, sizeN]
  have e : ((i : Int)).toNat = i := by omega
  simp only [Result.andThen_ok, e, Addr.add_lit]

/-- The kids of a node, as they lie. -/
def Kids (w : World) (l : List Nd) (ao : Option Addr) (vs : List Value) : Prop := (l ≠ [] → ∃ g o, ao = some ⟨g, o, none⟩ ∧ RowAt w 4 g o vs) ∧ IsNodes w l vs
theorem Kids.below {w x : World} {l : List Nd} {ao : Option Addr} {vs : List Value} (h : Kids w l ao vs) (hb : Below w.heap.size w x) : Kids x l ao vs :=
  ⟨fun hl => by
    obtain ⟨g, o, e, h1⟩ := h.1 hl
    exact ⟨g, o, e, h1.below hb⟩, h.2.below hb⟩
theorem Kids.at {w : World} {l : List Nd} {ao : Option Addr} {vs : List Value} (h : Kids w l ao vs) (cap : Nat) {i : Nat} (hi : i < l.length) :
    ∃ g q sa sc, (∀ W, (Instr.indexAt 23 (.slice ao l.length cap) (.int .i64 (i : Int))).run Tryd.prog W = .ok (.pointer (some ⟨g, q, none⟩)) W) ∧ g < w.heap.size ∧
      w.cell? ⟨g, q, none⟩ = some (.int .i64 l[i].kind) ∧ w.cell? ⟨g, q + 1, none⟩ = some (.string l[i].ta) ∧ w.cell? ⟨g, q + 2, none⟩ = some (.string l[i].tb) ∧ w.cell? ⟨g, q + 3, none⟩ = some (.slice sa l[i].kids.length sc) ∧
      IsNode w l[i] (node4 l[i].kind l[i].ta l[i].tb (.slice sa l[i].kids.length sc)) := kid_at h.1 h.2 hi
theorem Kids.at' {w : World} {l : List Nd} {ao : Option Addr} {vs : List Value} (h : Kids w l ao vs) (cap : Nat) {i : Nat} (hi : i < l.length) :
    ∃ g q sa sc, (∀ W, (Instr.indexAt 23 (.slice ao l.length cap) (.int .i64 (i : Int))).run Tryd.prog W = .ok (.pointer (some ⟨g, q, none⟩)) W) ∧ g < w.heap.size ∧
      w.cell? ⟨g, q, none⟩ = some (.int .i64 l[i].kind) ∧ w.cell? ⟨g, q + 1, none⟩ = some (.string l[i].ta) ∧ w.cell? ⟨g, q + 2, none⟩ = some (.string l[i].tb) ∧ w.cell? ⟨g, q + 3, none⟩ = some (.slice sa l[i].kids.length sc) ∧
      vs[i]? = some (node4 l[i].kind l[i].ta l[i].tb (.slice sa l[i].kids.length sc)) := by
  obtain ⟨g, o, rfl, hrow⟩ := h.1 (fun e => by rw [e] at hi; simp at hi)
  obtain ⟨v, hv, hn⟩ := h.2.at hi
  obtain ⟨-, hc⟩ := hrow i v hv
  obtain ⟨ao', cap', vs', hv', -⟩ := hn.open
  subst hv'
  have c0 := hc 0 _ rfl
  refine ⟨g, o + i * 4, _, _, fun W => ?_, World.block_lt_of_cell? w _ c0, c0, hc 1 _ rfl, hc 2 _ rfl, hc 3 _ rfl, hv⟩
  rw [run_indexAt_slice W _ _ _ _ _ _ elemN, if_pos ⟨by omega, by omega⟩, sizeN]
  have e : ((i : Int)).toNat = i := by omega
  simp only [Result.andThen_ok, e, Addr.add_lit]
theorem IsNode.kids {w : World} {n : Nd} {v : Value} (h : IsNode w n v) : ∃ ao cap vs, v = node4 n.kind n.ta n.tb (.slice ao n.kids.length cap) ∧ (n.ta.size ≤ maxLen ∧ n.tb.size ≤ maxLen) ∧ Kids w n.kids ao vs := h.open

/-- A node in a box. -/
def Box4 (R : Nat) (k : Int) (a b : ByteArray) (s : Value) (x : World) : Prop := x.heap[R]? = some (.cells #[.int .i64 k, .string a, .string b, s] 25 (0, 0))
theorem Box4.new (w : World) (k : Int) (a b : ByteArray) (s : Value) : Box4 w.heap.size k a b s (w.alloc (.cells #[.int .i64 k, .string a, .string b, s] 25)) := heap_alloc_new w _
section
variable {R : Nat} {k : Int} {a b : ByteArray} {s : Value} {x y : World}
theorem Box4.lt (h : Box4 R k a b s x) : R < x.heap.size := (Array.getElem?_eq_some_iff.1 h).1
theorem Box4.cells (h : Box4 R k a b s x) : x.cell? ⟨R, 0, none⟩ = some (.int .i64 k) ∧ x.cell? ⟨R, 1, none⟩ = some (.string a) ∧ x.cell? ⟨R, 2, none⟩ = some (.string b) ∧ x.cell? ⟨R, 3, none⟩ = some s :=
  ⟨by rw [Lib.cell_of_heap h]; rfl, by rw [Lib.cell_of_heap h]; rfl, by rw [Lib.cell_of_heap h]; rfl, by rw [Lib.cell_of_heap h]; rfl⟩
theorem Box4.on (h : Box4 R k a b s x) (hb : Below x.heap.size x y) : Box4 R k a b s y := (hb.block R h.lt).trans h
end

end Tr
end Go.Proofs.YtbphmaoomnocmaaDoor
