/-
  Layer 5 (tract): the document's example, which each statement asks first.
-/
import Derived.Test.YtleoknhnglbgoaaTrBuildB
import Derived.Test.YtleoknhnglbgoaaTrRefsB
namespace Go.Proofs.Ytleoknhnglbgoaa
open Go.RowKit
namespace Tr

def exA : ByteArray := ⟨#[97]⟩
def exP : ByteArray := ⟨#[112]⟩
def exB : ByteArray := ⟨#[98]⟩
/-- The document's example. -/
def exN : Nd := .mk 6 none0 none0 [.mk 4 none0 none0 [.mk 1 none0 none0 [], .mk 2 exA none0 []], .mk 3 exP exB []]
theorem ex_err : errOf exN = 0 := by decide +kernel
theorem ex_size : size exN = 5 := by decide +kernel
theorem ex_depth : depth exN = 3 := by decide +kernel
theorem ex_good : good exN = true := by decide +kernel
theorem ex_refs : refs exN false = [⟨none0, exA, false⟩, ⟨exP, exB, true⟩] := by rfl

/-- A list of two nodes. -/
theorem row_two {x : World} {g : Nat} {T : TypeId} {a0 a1 a2 a3 b0 b1 b2 b3 : Value} (h : x.heap[g]? = some (.cells #[a0, a1, a2, a3, b0, b1, b2, b3] T (0, 0))) : RowAt x 4 g 0 [.agg #[a0, a1, a2, a3], .agg #[b0, b1, b2, b3]] := by
  intro i v hv
  match i, hv with
  | 0, hv =>
    obtain rfl : Value.agg #[a0, a1, a2, a3] = v := by simpa using hv
    refine ⟨rfl, fun j u hj => ?_⟩
    match j, hj with
    | 0, hj => rw [Lib.cell_of_heap h]; exact hj
    | 1, hj => rw [Lib.cell_of_heap h]; exact hj
    | 2, hj => rw [Lib.cell_of_heap h]; exact hj
    | 3, hj => rw [Lib.cell_of_heap h]; exact hj
    | j + 4, hj => simp [Value.cells] at hj
  | 1, hv =>
    obtain rfl : Value.agg #[b0, b1, b2, b3] = v := by simpa using hv
    refine ⟨rfl, fun j u hj => ?_⟩
    match j, hj with
    | 0, hj => rw [Lib.cell_of_heap h]; exact hj
    | 1, hj => rw [Lib.cell_of_heap h]; exact hj
    | 2, hj => rw [Lib.cell_of_heap h]; exact hj
    | 3, hj => rw [Lib.cell_of_heap h]; exact hj
    | j + 4, hj => simp [Value.cells] at hj
  | i + 2, hv => simp at hv
theorem nodes_two {x : World} {n m : Nd} {v u : Value} (hn : IsNode x n v) (hm : IsNode x m u) : IsNodes x [n, m] [v, u] := by
  rw [IsNodes]
  refine ⟨_, _, rfl, hn, ?_⟩
  rw [IsNodes]
  refine ⟨_, _, rfl, hm, ?_⟩
  rw [IsNodes]
/-- A node without kids. -/
theorem node_leaf (x : World) (k : Int) (a b : ByteArray) (ha : a.size ≤ maxLen) (hb : b.size ≤ maxLen) : IsNode x (.mk k a b []) (node4 k a b (.slice none 0 0)) := by
  rw [IsNode]
  refine ⟨none, 0, [], rfl, ⟨ha, hb⟩, fun h => absurd rfl h, ?_⟩
  rw [IsNodes]
theorem node_two {x : World} {g cap : Nat} {T : TypeId} {k : Int} {a b : ByteArray} {n m : Nd} {a0 a1 a2 a3 b0 b1 b2 b3 : Value} (ha : a.size ≤ maxLen) (hb : b.size ≤ maxLen) (h : x.heap[g]? = some (.cells #[a0, a1, a2, a3, b0, b1, b2, b3] T (0, 0)))
    (hn : IsNode x n (.agg #[a0, a1, a2, a3])) (hm : IsNode x m (.agg #[b0, b1, b2, b3])) : IsNode x (.mk k a b [n, m]) (node4 k a b (.slice (some ⟨g, 0, none⟩) 2 cap)) := by
  rw [IsNode]
  exact ⟨_, cap, _, rfl, ⟨ha, hb⟩, fun _ => ⟨g, 0, rfl, row_two h⟩, nodes_two hn hm⟩
theorem short {s : ByteArray} (h : s.size ≤ 100) : s.size ≤ maxLen := by unfold maxLen; omega

set_option maxHeartbeats 1000000 in
set_option maxRecDepth 100000 in
theorem example_any (w : World) : Calls Try.prog 22 #[] w fun e x => ∃ v, e = .returned v ∧ IsNode x exN v ∧ Below w.heap.size w x := by
  go_enter Try.func22, Try.ntmps22
  go_wp2_with fail
  obtain ⟨x, hx⟩ : ∃ x, x = (((w.alloc (.cells #[.int .i64 6, .string ⟨#[]⟩, .string ⟨#[]⟩, .slice (some ⟨w.heap.size + 1 + 1, 0, none⟩) 2 2] 24)).alloc (.cells #[.int .i64 1, .string ⟨#[]⟩, .string ⟨#[]⟩, .slice none 0 0, .int .i64 2, .string ⟨#[97]⟩, .string ⟨#[]⟩, .slice none 0 0] 24)).alloc
    (.cells #[.int .i64 4, .string ⟨#[]⟩, .string ⟨#[]⟩, .slice (some ⟨w.heap.size + 1, 0, none⟩) 2 2, .int .i64 3, .string ⟨#[112]⟩, .string ⟨#[98]⟩, .slice none 0 0] 24)) := ⟨_, rfl⟩
  have h0 : x.heap[w.heap.size]? = some (.cells #[.int .i64 6, .string ⟨#[]⟩, .string ⟨#[]⟩, .slice (some ⟨w.heap.size + 1 + 1, 0, none⟩) 2 2] 24 (0, 0)) := by
    rw [hx]
    exact (((Below.refl (w.heap.size + 1) (w.alloc _)).alloc (by simp) _).alloc (by simp) _).block w.heap.size (by omega) |>.trans (heap_alloc_new w _)
  have h1 : x.heap[w.heap.size + 1]? = some (.cells #[.int .i64 1, .string ⟨#[]⟩, .string ⟨#[]⟩, .slice none 0 0, .int .i64 2, .string ⟨#[97]⟩, .string ⟨#[]⟩, .slice none 0 0] 24 (0, 0)) := by
    rw [hx]
    have := heap_alloc_new (w.alloc (.cells #[.int .i64 6, .string ⟨#[]⟩, .string ⟨#[]⟩, .slice (some ⟨w.heap.size + 1 + 1, 0, none⟩) 2 2] 24)) (.cells #[.int .i64 1, .string ⟨#[]⟩, .string ⟨#[]⟩, .slice none 0 0, .int .i64 2, .string ⟨#[97]⟩, .string ⟨#[]⟩, .slice none 0 0] 24)
    rw [World.size_alloc] at this
    exact ((fresh_one _ _).block (w.heap.size + 1) (by simp)).trans this
  have h2 : x.heap[w.heap.size + 1 + 1]? = some (.cells #[.int .i64 4, .string ⟨#[]⟩, .string ⟨#[]⟩, .slice (some ⟨w.heap.size + 1, 0, none⟩) 2 2, .int .i64 3, .string ⟨#[112]⟩, .string ⟨#[98]⟩, .slice none 0 0] 24 (0, 0)) := by
    rw [hx]
    have := heap_alloc_new ((w.alloc (.cells #[.int .i64 6, .string ⟨#[]⟩, .string ⟨#[]⟩, .slice (some ⟨w.heap.size + 1 + 1, 0, none⟩) 2 2] 24)).alloc (.cells #[.int .i64 1, .string ⟨#[]⟩, .string ⟨#[]⟩, .slice none 0 0, .int .i64 2, .string ⟨#[97]⟩, .string ⟨#[]⟩, .slice none 0 0] 24)) (.cells #[.int .i64 4, .string ⟨#[]⟩, .string ⟨#[]⟩, .slice (some ⟨w.heap.size + 1, 0, none⟩) 2 2, .int .i64 3, .string ⟨#[112]⟩, .string ⟨#[98]⟩, .slice none 0 0] 24)
    rw [World.size_alloc, World.size_alloc] at this
    exact this
  have hb : Below w.heap.size w x := by rw [hx]; exact ((fresh_one w _).alloc (by simp) _).alloc (by simp; omega) _
  rw [← hx]
  have c := (show Box4 w.heap.size 6 ⟨#[]⟩ ⟨#[]⟩ (.slice (some ⟨w.heap.size + 1 + 1, 0, none⟩) 2 2) x from h0).cells
  refine bodyPost_ret (v := node4 6 ⟨#[]⟩ ⟨#[]⟩ (.slice (some ⟨w.heap.size + 1 + 1, 0, none⟩) 2 2)) (by simp [results, Try.results22, go_sem, c.1, c.2.1, c.2.2.1, c.2.2.2]) rfl ⟨_, rfl, ?_, hb⟩
  have s0 : (⟨#[]⟩ : ByteArray).size ≤ maxLen := short (by decide)
  exact node_two s0 s0 h2 (node_two s0 s0 h1 (node_leaf x 1 _ _ s0 s0) (node_leaf x 2 _ _ (short (by decide)) s0)) (node_leaf x 3 _ _ (short (by decide)) (short (by decide)))

set_option maxHeartbeats 2000000 in
set_option maxRecDepth 100000 in
theorem awake_any (w : World) : Calls Try.prog 7 #[] w fun e x => e = .returned (.bool true) ∧ Below w.heap.size w x := by
  have HE := Lib.hid (example_any w)
  have HB := Lib.hid (fun v x (hn : IsNode x exN v) => Build_any exN v x (by rw [ex_size]; omega) hn)
  have HS := Lib.hid (fun v x (hn : IsNode x exN v) => size_any exN v x (by rw [ex_size]; omega) hn)
  have HD := Lib.hid (fun v x (hn : IsNode x exN v) => depth_any exN v x (by rw [ex_size]; omega) hn)
  have HR := Lib.hid (fun u x (hn : IsExpr 0 x exN u) => refs_any exN u x (by rw [ex_size]; omega) ex_good hn)
  rw [ex_size] at HS
  rw [ex_depth] at HD
  rw [ex_refs] at HR
  rw [ex_err] at HB
  go_enter Try.func7, Try.ntmps7
  go_wp2_with fail
  refine HE.out.mono ?_
  rintro e x1 ⟨v, rfl, hn, hb⟩
  obtain ⟨ao, cap, vs, rfl, -, -⟩ := hn.kids
  generalize exN.kids.length = L at *
  have al := fresh_one x1 (.cells #[.int .i64 exN.kind, .string exN.ta, .string exN.tb, .slice ao L cap] 24)
  have H1 := Lib.hid (And.intro (hn.below al) (And.intro (hb.trans (al.mono hb.size)) (Box4.new x1 exN.kind exN.ta exN.tb (.slice ao L cap))))
  generalize exN.kind = K at *
  generalize exN.ta = A at *
  generalize exN.tb = B at *
  clear hn hb al HE
  go_wp2_with fail
  refine (HB.out _ _ H1.out.1).mono ?_
  rintro e x2 ⟨hb2, h | ⟨-, u, rfl, hu⟩⟩
  · exact absurd rfl h.1
  obtain ⟨ut, uv, rfl⟩ := hu.iface
  have H2 := Lib.hid (And.intro (H1.out.1.below hb2) (And.intro (H1.out.2.1.trans (hb2.mono H1.out.2.1.size)) (And.intro (H1.out.2.2.on hb2) (hu.mono (Nat.zero_le _)))))
  obtain ⟨b0, b1, b2, b3⟩ := H2.out.2.2.1.cells
  clear hb2 hu H1 HB
  go_wp2_with fail
  refine (HS.out _ _ H2.out.1).mono ?_
  rintro e x3 ⟨rfl, hb3⟩
  have H3 := Lib.hid (And.intro (H2.out.1.below hb3) (And.intro (H2.out.2.1.trans (hb3.mono H2.out.2.1.size)) (And.intro (H2.out.2.2.1.on hb3) (H2.out.2.2.2.below hb3))))
  clear hb3 b0 b1 b2 b3 H2 HS
  obtain ⟨b0, b1, b2, b3⟩ := H3.out.2.2.1.cells
  go_wp2_with fail
  refine (HD.out _ _ H3.out.1).mono ?_
  rintro e x4 ⟨rfl, hb4⟩
  have H4 := Lib.hid (And.intro (H3.out.2.1.trans (hb4.mono H3.out.2.1.size)) (H3.out.2.2.2.below hb4))
  clear hb4 b0 b1 b2 b3 H3 HD
  go_wp2_with fail
  refine (HR.out _ _ H4.out.2).mono ?_
  rintro e x5 ⟨v, rfl, hr, hb5⟩
  obtain ⟨g, rc, rfl, -, -, -, hc⟩ := own_open (show x5.ownsRow _ _ 3 v (1 + 1) _ from hr)
  have c0 := hc 0 _ rfl
  have c1 := hc 1 _ rfl
  have c2 := hc 2 _ rfl
  have c3 := hc 3 _ rfl
  have c4 := hc 4 _ rfl
  have c5 := hc 5 _ rfl
  have H5 := Lib.hid (H4.out.1.trans (hb5.mono H4.out.1.size))
  have e0 : none0.toList = [] := by rw [Lib.toList_data]; rfl
  have e1 : exA.toList = [97] := by rw [Lib.toList_data]; rfl
  have e2 : exP.toList = [112] := by rw [Lib.toList_data]; rfl
  have e3 : exB.toList = [98] := by rw [Lib.toList_data]; rfl
  clear hr hb5 hc H4 HR
  go_wp2_with fail
  go_ret
  exact ⟨rfl, H5.out⟩
end Tr
end Go.Proofs.Ytleoknhnglbgoaa
