/-
  Layer 5 (tract): the node of each expression.
-/
import Derived.Test.YtleoknhnglbgoaaTrInv
import Derived.Test.YtleoknhnglbgoaaTrRefs
namespace Go.Proofs.Ytleoknhnglbgoaa
open Go.RowKit
namespace Tr
open Knot (Turns)

theorem nodes_info : ∃ i z, Try.prog.info? 24 = some i ∧ i.zero = some z ∧ i.size = 4 ∧ z.cells.size = 4 ∧ i.bytes ≤ 1000 := by
  refine ⟨_, .agg #[.int .i64 0, .string ⟨#[]⟩, .string ⟨#[]⟩, .slice none 0 0], rfl, by kernel_rfl, by kernel_rfl, by kernel_rfl, ?_⟩
  exact of_decide_eq_true (by kernel_rfl)
theorem put4 {x : World} {g q : Nat} {cur : Array Value} {T : TypeId} (h : x.heap[g]? = some (.cells cur T (0, 0))) (a0 a1 a2 a3 : Value) :
    ((((x.setCell ⟨g, q, none⟩ a0).setCell ⟨g, q + 1, none⟩ a1).setCell ⟨g, q + 2, none⟩ a2).setCell ⟨g, q + 3, none⟩ a3).heap[g]? = some (.cells ((((cur.setIfInBounds q a0).setIfInBounds (q + 1) a1).setIfInBounds (q + 2) a2).setIfInBounds (q + 3) a3) T (0, 0)) :=
  heap_setCell_same _ g _ _ _ _ (heap_setCell_same _ g _ _ _ _ (heap_setCell_same _ g _ _ _ _ (heap_setCell_same _ g _ _ _ _ h)))

/-- The cells of a list of nodes so far. -/
def Filled (cur : Array Value) (us : List Value) : Prop := ∀ (i : Nat) (v : Value), us[i]? = some v → v.cells.size = 4 ∧ ∀ (j : Nat) (u : Value), v.cells[j]? = some u → cur[i * 4 + j]? = some u
theorem Filled.more {cur : Array Value} {us : List Value} {j : Nat} {a0 a1 a2 a3 : Value} (h : Filled cur us) (hl : us.length = j) (hc : j * 4 + 3 < cur.size) :
    Filled ((((cur.setIfInBounds (j * 4) a0).setIfInBounds (j * 4 + 1) a1).setIfInBounds (j * 4 + 2) a2).setIfInBounds (j * 4 + 3) a3) (us ++ [.agg #[a0, a1, a2, a3]]) := by
  intro i v hv
  by_cases e : i = j
  · subst e
    rw [List.getElem?_append_right (by omega), hl, Nat.sub_self] at hv
    obtain rfl : Value.agg #[a0, a1, a2, a3] = v := by simpa using hv
    refine ⟨rfl, fun k u hu => ?_⟩
    match k, hu with
    | 0, hu => simp [Array.getElem?_setIfInBounds]; exact ⟨by omega, by simpa [Value.cells] using hu⟩
    | 1, hu => simp [Array.getElem?_setIfInBounds]; exact ⟨by omega, by simpa [Value.cells] using hu⟩
    | 2, hu => simp [Array.getElem?_setIfInBounds]; exact ⟨by omega, by simpa [Value.cells] using hu⟩
    | 3, hu => simp [Array.getElem?_setIfInBounds]; exact ⟨by omega, by simpa [Value.cells] using hu⟩
    | k + 4, hu => simp [Value.cells] at hu
  · have hlen := (List.getElem?_eq_some_iff.1 hv).1
    rw [List.length_append, List.length_singleton] at hlen
    rw [List.getElem?_append_left (by omega)] at hv
    obtain ⟨h4, h5⟩ := h i v hv
    refine ⟨h4, fun k u hu => ?_⟩
    have hk : k < 4 := by
      have := (Array.getElem?_eq_some_iff.1 hu).1
      omega
    rw [Array.getElem?_setIfInBounds, if_neg (by omega), Array.getElem?_setIfInBounds, if_neg (by omega), Array.getElem?_setIfInBounds, if_neg (by omega), Array.getElem?_setIfInBounds, if_neg (by omega)]
    exact h5 k u hu

set_option maxHeartbeats 4000000 in
set_option maxRecDepth 100000 in
theorem nodes_of (B : Nat) (l : List Nd) (g o cap : Nat) (ps : List Value) (w : World) (hk : IsExprs B w l ps) (hc : ∀ i u, ps[i]? = some u → w.cell? ⟨g, o + i, none⟩ = some u) (hl : l.length ≤ 300)
    (H : ∀ n ∈ l, ∀ u x, IsExpr B x n u → Meth u n x) :
    Calls Try.prog 67 #[.slice (some ⟨g, o, none⟩) l.length cap] w fun e x => ∃ us, e = .returned (.slice (some ⟨w.heap.size, 0, none⟩) l.length l.length) ∧ RowAt x 4 w.heap.size 0 us ∧ NodesIn (w.heap.size + 1) x l us ∧ Below w.heap.size w x ∧ ∃ cur, x.heap[w.heap.size]? = some (.cells cur 24 (0, 0)) ∧ cur.size = l.length * 4 := by
  obtain ⟨i, z, hi, hz, hs, hz4, hb⟩ := nodes_info
  have hmk : ∀ W : World, (Instr.makeSlice 22 (.int .i64 (l.length : Int)) (.int .i64 (l.length : Int))).run Try.prog W = .ok (.slice (some ⟨W.heap.size, 0, none⟩) l.length l.length) (W.alloc (.cells (madeCells z.cells (l.length * 4)) 24)) := fun W => by
    have h := run_make (P := Try.prog) W 22 24 i z Try.underlying22 hi hz .i64 .i64 (l.length : Int) (l.length : Int) (by omega) (by omega) (by
      have h1 : i.bytes * l.length ≤ 1000 * l.length := Nat.mul_le_mul_right _ hb
      have h2 : ((i.bytes * l.length : Nat) : Int) ≤ ((1000 * l.length : Nat) : Int) := by omega
      rw [Int.natCast_mul] at h2
      omega) (by omega)
    rw [hs] at h
    simpa using h
  have HK := Lib.hid (And.intro hc hk)
  have HH := Lib.hid H
  clear hi hz hs hz4 hb hk H hc
  generalize z.cells = zc at hmk
  go_enter Try.func67, Try.ntmps67
  go_wp2_with fail
  clear hmk
  go_loopw [11] (fun k wr => ∃ (j : Nat) (us : List Value) (cur : Array Value), j ≤ l.length ∧ k = .int .i64 (j : Nat) ∧ Hid (us.length = j ∧ cur.size = l.length * 4 ∧ Filled cur us) ∧ wr.heap[w.heap.size]? = some (.cells cur 24 (0, 0)) ∧ Hid (NodesIn (w.heap.size + 1) wr (l.take j) us) ∧ Below w.heap.size w wr) (fun k _ => l.length - (intOf k).toNat)
  case atStart =>
    refine ⟨0, [], madeCells zc (l.length * 4), by omega, rfl, Lib.hid ⟨rfl, size_madeCells _ _, fun i u h => by simp at h⟩, heap_alloc_new w _, Lib.hid ?_, fresh_one _ _⟩
    rw [List.take_zero, NodesIn]
  case round =>
    obtain ⟨j, us, cur, hj, rfl, HU, hg, HE, hb⟩ := hrel
    have hsz : w.heap.size < wr.heap.size := (Array.getElem?_eq_some_iff.1 hg).1
    by_cases hlt : j < l.length
    · obtain ⟨pv, hix, hkg, c0, hn⟩ := part_at HK.out.1 HK.out.2 hlt (cap := cap)
      have c1 := (hb.cell (p := ⟨g, o + j, none⟩) hkg).trans c0
      obtain ⟨pt, px, rfl⟩ := hn.iface
      obtain ⟨f, fargs, hm, hC⟩ := HH.out l[j] (List.getElem_mem hlt) _ wr (hn.below hb)
      have hjx : ∀ W, (Instr.indexAt 22 (.slice (some ⟨w.heap.size, 0, none⟩) l.length l.length) (.int .i64 (j : Int))).run Try.prog W = .ok (.pointer (some ⟨w.heap.size, j * 4, none⟩)) W := fun W => by
        rw [run_indexAt_slice W _ _ _ _ _ _ elemN, if_pos ⟨by omega, by omega⟩, sizeN]
        have e : ((j : Int)).toNat = j := by omega
        simp only [Result.andThen_ok, e, Addr.add_lit, Nat.zero_add]
      have HM := Lib.hid hm
      have HC := Lib.hid hC
      have HB := Lib.hid (And.intro hb (And.intro hg hsz))
      have hlt3 : j ≤ 300 := by omega
      clear hn hC hb hg hsz hm c0 hkg
      go_wp2_with (refine walk_invoke rfl _ rfl rfl HM.out ?_)
      refine HC.out.mono ?_
      rintro e x ⟨v, rfl, hv, hx, -⟩
      refine ⟨_, rfl, ?_⟩
      have hvi := (NodeIn.is (size l[j]) (Nat.le_refl _) hv).open
      obtain ⟨vo, vc, -, rfl, -, -⟩ := hvi
      have hgx : x.heap[w.heap.size]? = some (.cells cur 24 (0, 0)) := (hx.block _ HB.out.2.2).trans HB.out.2.1
      have hcs : j * 4 + 3 < cur.size := by have := HU.out.2.1; omega
      have hcell : ∀ c, c < 4 → ∃ o, x.cell? ⟨w.heap.size, j * 4 + c, none⟩ = some o := fun c hc => by
        rw [Lib.cell_of_heap hgx]
        exact ⟨_, Array.getElem?_eq_getElem (by omega)⟩
      obtain ⟨o0, d0⟩ := hcell 0 (by omega)
      obtain ⟨o1, d1⟩ := hcell 1 (by omega)
      obtain ⟨o2, d2⟩ := hcell 2 (by omega)
      obtain ⟨o3, d3⟩ := hcell 3 (by omega)
      rw [Nat.add_zero] at d0
      have z0 : x.frozen? ⟨w.heap.size, j * 4, none⟩ = false := Lib.frozen_of_heap hgx _
      have z1 : x.frozen? ⟨w.heap.size, j * 4 + 1, none⟩ = false := Lib.frozen_of_heap hgx _
      have z2 : x.frozen? ⟨w.heap.size, j * 4 + 2, none⟩ = false := Lib.frozen_of_heap hgx _
      have z3 : x.frozen? ⟨w.heap.size, j * 4 + 3, none⟩ = false := Lib.frozen_of_heap hgx _
      have HX := Lib.hid (And.intro hv (And.intro hx (And.intro hgx hcs)))
      clear hv hx hgx hcs hcell hix HM HC c1
      go_wp2_with fail
      go_roundw
      case rel =>
        have hx2 := HX.out.2.1
        refine ⟨j + 1, us ++ [.agg #[.int .i64 l[j].kind, .string l[j].ta, .string l[j].tb, .slice vo l[j].kids.length vc]], _, by omega, by go_num, Lib.hid ⟨by rw [List.length_append, HU.out.1]; rfl, ?_, HU.out.2.2.more HU.out.1 HX.out.2.2.2⟩, put4 HX.out.2.2.1 _ _ _ _, Lib.hid ?_, ?_⟩
        · rw [Array.size_setIfInBounds, Array.size_setIfInBounds, Array.size_setIfInBounds, Array.size_setIfInBounds]
          exact HU.out.2.1
        · have h4 : ∀ n v, NodeIn (w.heap.size + 1) x n v → NodeIn (w.heap.size + 1) ((((x.setCell ⟨w.heap.size, j * 4, none⟩ (.int .i64 l[j].kind)).setCell ⟨w.heap.size, j * 4 + 1, none⟩ (.string l[j].ta)).setCell ⟨w.heap.size, j * 4 + 2, none⟩ (.string l[j].tb)).setCell ⟨w.heap.size, j * 4 + 3, none⟩ (.slice vo l[j].kids.length vc)) n v :=
            fun n v h => (((h.put (by simp) _).put (by simp) _).put (by simp) _).put (by simp) _
          refine NodesIn.of ?_ fun i hi v hv => ?_
          · rw [List.length_append, HU.out.1, List.length_take, Nat.min_eq_left (by omega)]; rfl
          · rw [List.length_take] at hi
            by_cases e : i = j
            · subst e
              rw [List.getElem?_append_right (by rw [HU.out.1]; omega), HU.out.1, Nat.sub_self] at hv
              obtain rfl : Value.agg #[.int .i64 l[i].kind, .string l[i].ta, .string l[i].tb, .slice vo l[i].kids.length vc] = v := by simpa using hv
              rw [List.getElem_take]
              exact h4 _ _ (HX.out.1.mono (by have := HB.out.2.2; omega))
            · have hi2 : i < (l.take j).length := by rw [List.length_take]; omega
              obtain ⟨v', hv', hn'⟩ := HE.out.at hi2
              have hlen := (List.getElem?_eq_some_iff.1 hv').1
              rw [List.getElem?_append_left hlen, hv'] at hv
              obtain rfl : v' = v := by simpa using hv
              rw [List.getElem_take] at hn' ⊢
              exact h4 _ _ (hn'.below hx2)
        · have h0 := HB.out.1.trans (hx2.mono HB.out.1.size)
          exact (((h0.setCell (Nat.le_refl _) _).setCell (Nat.le_refl _) _).setCell (Nat.le_refl _) _).setCell (Nat.le_refl _) _
      case measure => simp [intOf]; omega
    · have hj' : j = l.length := by omega
      subst hj'
      have hE := HE.out
      rw [List.take_length] at hE
      have HF := Lib.hid (And.intro hE (And.intro hg hb))
      clear HE hE hg hb
      go_wp2_with fail
      go_ret
      refine ⟨us, rfl, fun i v hv => ?_, HF.out.1, HF.out.2.2, cur, HF.out.2.1, HU.out.2.1⟩
      obtain ⟨h4, h5⟩ := HU.out.2.2 i v hv
      refine ⟨h4, fun k u hu => ?_⟩
      rw [Lib.cell_of_heap HF.out.2.1, Nat.zero_add]
      exact h5 k u hu

/-! ### the six of them -/
set_option maxHeartbeats 1000000 in
set_option maxRecDepth 100000 in
theorem node_this (w : World) : Calls Try.prog 70 #[.agg #[]] w (Noded (.mk 1 ⟨#[]⟩ ⟨#[]⟩ []) w) := by
  have s0 : (⟨#[]⟩ : ByteArray).size ≤ maxLen := by unfold maxLen; decide
  have HS := Lib.hid s0
  clear s0
  go_enter Try.func70, Try.ntmps70
  go_wp2_with fail
  refine bodyPost_ret (v := node4 1 ⟨#[]⟩ ⟨#[]⟩ (.slice none 0 0)) (by simp [results, Try.results70, go_sem]) rfl ⟨_, rfl, ?_, (fresh_one _ _).alloc (by simp) _, free_nil _ _ _ _⟩
  rw [NodeIn]
  refine ⟨none, 0, [], rfl, ⟨HS.out, HS.out⟩, fun h => absurd rfl h, ?_⟩
  rw [NodesIn]

/-- A box of four cells. -/
theorem cells4 {R : Nat} {v0 v1 v2 v3 : Value} {T : TypeId} {x : World} (h : x.heap[R]? = some (.cells #[v0, v1, v2, v3] T (0, 0))) : (x.cell? ⟨R, 0, none⟩ = some v0 ∧ x.cell? ⟨R, 1, none⟩ = some v1 ∧ x.cell? ⟨R, 2, none⟩ = some v2 ∧ x.cell? ⟨R, 3, none⟩ = some v3) ∧
    x.frozen? ⟨R, 0, none⟩ = false ∧ x.frozen? ⟨R, 1, none⟩ = false ∧ x.frozen? ⟨R, 2, none⟩ = false ∧ x.frozen? ⟨R, 3, none⟩ = false :=
  ⟨⟨by rw [Lib.cell_of_heap h]; rfl, by rw [Lib.cell_of_heap h]; rfl, by rw [Lib.cell_of_heap h]; rfl, by rw [Lib.cell_of_heap h]; rfl⟩, Lib.frozen_of_heap h 0, Lib.frozen_of_heap h 1, Lib.frozen_of_heap h 2, Lib.frozen_of_heap h 3⟩

set_option maxHeartbeats 1000000 in
set_option maxRecDepth 100000 in
theorem node_computed (a : ByteArray) (w : World) (ha : a.size ≤ 16) : Calls Try.prog 65 #[.agg #[.string a]] w (Noded (.mk 2 a ⟨#[]⟩ []) w) := by
  have s0 : (⟨#[]⟩ : ByteArray).size ≤ maxLen ∧ a.size ≤ maxLen := by unfold maxLen; exact ⟨by decide, by omega⟩
  have HS := Lib.hid s0
  have HC := Lib.hid (fun x => Who.clone_any a x (by omega))
  have hb : ((w.alloc (.cells #[.string a] 62)).alloc (.cells #[.int .i64 0, .string ⟨#[]⟩, .string ⟨#[]⟩, .slice none 0 0] 24)).heap[w.heap.size + 1]? = some (.cells #[.int .i64 0, .string ⟨#[]⟩, .string ⟨#[]⟩, .slice none 0 0] 24 (0, 0)) := by
    have := heap_alloc_new (w.alloc (.cells #[.string a] 62)) (.cells #[.int .i64 0, .string ⟨#[]⟩, .string ⟨#[]⟩, .slice none 0 0] 24)
    simpa using this
  have HB := Lib.hid hb
  clear s0 ha hb
  go_enter Try.func65, Try.ntmps65
  go_wp2_with fail
  refine (HC.out _).mono ?_
  rintro e x ⟨rfl, hx⟩
  obtain ⟨⟨c0, c1, c2, c3⟩, f0, f1, f2, f3⟩ := cells4 ((hx.block (w.heap.size + 1) (by simp)).trans HB.out)
  have HX := Lib.hid (((fresh_one w _).alloc (by simp) _).trans (hx.mono (by simp; omega)))
  clear hx HC HB
  go_wp2_with fail
  refine bodyPost_ret (v := node4 2 a ⟨#[]⟩ (.slice none 0 0)) (by simp [results, Try.results65, go_sem, c0, c1, c2, c3]) rfl ⟨_, rfl, ?_, ?_, free_nil _ _ _ _⟩
  · rw [NodeIn]
    refine ⟨none, 0, [], rfl, ⟨HS.out.2, HS.out.1⟩, fun h => absurd rfl h, ?_⟩
    rw [NodesIn]
  · exact (((HX.out.setCell (by simp) _).setCell (by simp) _).setCell (by simp) _).setCell (by simp) _
end Tr
end Go.Proofs.Ytleoknhnglbgoaa
