/-
  Layer 4 (knot): a list of tuples that came in; subjects and tuples tied. What is asked: the library's table of powers of ten.
-/
import Derived.Test.YtoeaapomjjclaaaDoorKnD
import Derived.Test.YtoeaapomjjclaaaDoorBondPure
namespace Go.Proofs.YtoeaapomjjclaaaDoor
open Go.RowKit Go.Sort
namespace Knot
open Who (bs bs_list bs_size bs_self eq_of_list)
open Bond (L3)

/-- A tuple's cells. -/
def cells6 (p : L3 × L3) : List Value := [.string (bs p.1.1), .string (bs p.1.2.1), .string (bs p.1.2.2), .string (bs p.2.1), .string (bs p.2.2.1), .string (bs p.2.2.2)]
abbrev agg6 (p : L3 × L3) : Value := .agg #[.string (bs p.1.1), .string (bs p.1.2.1), .string (bs p.1.2.2), .string (bs p.2.1), .string (bs p.2.2.1), .string (bs p.2.2.2)]
abbrev agg3 (y : L3) : Value := .agg #[.string (bs y.1), .string (bs y.2.1), .string (bs y.2.2)]
/-- A list of tuples that lies in memory. -/
def IsTups (w : World) (v : Value) (l : List (L3 × L3)) : Prop :=
  ∃ ao cap, v = .slice ao l.length cap ∧ (l ≠ [] → ∃ b o, ao = some ⟨b, o, none⟩ ∧ ∀ (i : Nat) (h : i < l.length) (j : Nat) (u : Value), (cells6 l[i])[j]? = some u → w.cell? ⟨b, o + i * 6 + j, none⟩ = some u)
theorem IsTups.turn {w x : World} {F : Nat → Prop} {v : Value} {l : List (L3 × L3)} (h : IsTups w v l) (ht : Turns F w x) (hF : ∀ k, v.ownBlock = some k → ¬ F k) : IsTups x v l := by
  obtain ⟨ao, cap, rfl, hc⟩ := h
  refine ⟨ao, cap, rfl, fun hl => ?_⟩
  obtain ⟨b, o, rfl, hd⟩ := hc hl
  refine ⟨b, o, rfl, fun i hi j u hu => ?_⟩
  have h1 := hd i hi j u hu
  exact (ht.cell (p := ⟨b, o + i * 6 + j, none⟩) (World.block_lt_of_cell? w _ h1) (hF b rfl)).trans h1
theorem IsTups.below {w x : World} {v : Value} {l : List (L3 × L3)} (h : IsTups w v l) (hb : Below w.heap.size w x) : IsTups x v l := h.turn (F := fun _ => False) (Turns.of_below hb) fun _ _ h => h
theorem IsTups.len {w : World} {v : Value} {l : List (L3 × L3)} (h : IsTups w v l) : ∃ ao c, v = .slice ao l.length c := by
  obtain ⟨ao, cap, hv, -⟩ := h
  exact ⟨ao, cap, hv⟩
theorem elemT : Tryd.prog.underlying 22 = some (.slice (Tryd.prog.elem 22)) := by kernel_rfl
theorem sizeT : ∀ w, (sizeOf (Tryd.prog.elem 22)).run Tryd.prog w = .ok 6 w := fun w => by kernel_rfl
/-- Where a tuple of the list lies, and its cells. -/
theorem IsTups.at {w : World} {v : Value} {l : List (L3 × L3)} (h : IsTups w v l) {i : Nat} (hi : i < l.length) : ∃ b q, (∀ W, (Instr.indexAt 22 v (.int .i64 (i : Int))).run Tryd.prog W = .ok (.pointer (some ⟨b, q, none⟩)) W) ∧ b < w.heap.size ∧ v.ownBlock = some b ∧
    w.cell? ⟨b, q, none⟩ = some (.string (bs l[i].1.1)) ∧ w.cell? ⟨b, q + 1, none⟩ = some (.string (bs l[i].1.2.1)) ∧ w.cell? ⟨b, q + 2, none⟩ = some (.string (bs l[i].1.2.2)) ∧
    w.cell? ⟨b, q + 3, none⟩ = some (.string (bs l[i].2.1)) ∧ w.cell? ⟨b, q + 4, none⟩ = some (.string (bs l[i].2.2.1)) ∧ w.cell? ⟨b, q + 5, none⟩ = some (.string (bs l[i].2.2.2)) := by
  obtain ⟨ao, cap, rfl, hc⟩ := h
  obtain ⟨b, o, rfl, hd⟩ := hc (fun e => by rw [e] at hi; simp at hi)
  have c0 := hd i hi 0 _ rfl
  refine ⟨b, o + i * 6, fun W => ?_, World.block_lt_of_cell? w _ c0, rfl, c0, hd i hi 1 _ rfl, hd i hi 2 _ rfl, hd i hi 3 _ rfl, hd i hi 4 _ rfl, hd i hi 5 _ rfl⟩
  rw [run_indexAt_slice W _ _ _ _ _ _ elemT, if_pos ⟨by omega, by omega⟩, sizeT]
  have e : ((i : Int)).toNat = i := by omega
  simp only [Result.andThen_ok, e, Addr.add_lit]

/-- The bytes of a tuple that is tied are bounded. -/
def Small (n : Nat) (y : L3) : Prop := y.1.length ≤ n ∧ y.2.1.length ≤ n ∧ y.2.2.length ≤ n

/-- A box of three texts that no call on the knot reaches. -/
def Box3 (R : Nat) (y : L3) (x : World) : Prop := x.heap[R]? = some (.cells #[.string (bs y.1), .string (bs y.2.1), .string (bs y.2.2)] 36 (0, 0))
theorem Box3.cells {R : Nat} {y : L3} {x : World} (h : Box3 R y x) : x.cell? ⟨R, 0, none⟩ = some (.string (bs y.1)) ∧ x.cell? ⟨R, 1, none⟩ = some (.string (bs y.2.1)) ∧ x.cell? ⟨R, 2, none⟩ = some (.string (bs y.2.2)) :=
  ⟨by rw [Lib.cell_of_heap h]; rfl, by rw [Lib.cell_of_heap h]; rfl, by rw [Lib.cell_of_heap h]; rfl⟩
/-- The state of a call on a knot, from the world w on, with a box in block R. -/
structure Going (B K : Nat) (v0 : Value) (w : World) (R : Nat) (v : Value) (l : List UInt8) (x : World) : Prop where
  kn : Kn B x K v l
  step : KStep K v0 v w x
  apart : ¬ Foot K v R
  lt : R < x.heap.size
theorem Going.on {B K R : Nat} {v0 v v' : Value} {l m : List UInt8} {w x y : World} (h : Going B K v0 w R v l x) (hk : Kn B y K v' (l ++ m)) (hs : KStep K v v' x y) : Going B K v0 w R v' (l ++ m) y := by
  refine ⟨hk, h.step.trans hs, ?_, Nat.lt_of_lt_of_le h.lt hs.turns.size⟩
  rintro (e | e)
  · exact h.apart (.inl e)
  · rcases hs.new R e with h' | h'
    · exact h.apart (.inr h')
    · have := h.lt
      omega
theorem Going.box {B K R : Nat} {v0 v v' : Value} {l : List UInt8} {w x y : World} {o : Obj} (h : Going B K v0 w R v l x) (hs : KStep K v v' x y) (hr : x.heap[R]? = some o) : y.heap[R]? = some o := hs.turns.heap hr h.apart
theorem Going.start {B K : Nat} {v : Value} {l : List UInt8} {w : World} (h : Kn B w K v l) (o : Obj) : Going B K v w w.heap.size v l (w.alloc o) :=
  ⟨h.alloc o, (KStep.refl K v w).then_below ((Below.refl _ _).alloc (Nat.le_refl _) o), fun hf => by have := (h.foot _ hf).2; omega, by simp⟩

set_option maxHeartbeats 4000000 in
set_option maxRecDepth 100000 in
theorem ksubject_any (B K : Nat) (v : Value) (l : List UInt8) (y : L3) (w : World) (h : Kn B w K v l) (hs : l.length + (three y).length ≤ 60000000) (hy : Small 4000000 y) (htab : Tab B w) :
    Calls Tryd.prog 18 #[ptr K, agg3 y] w (Tied B K v l (three y) w) := by
  obtain ⟨y0, y1, y2⟩ := hy
  have hl : (three y).length = (textB y.1).length + ((textB y.2.1).length + (textB y.2.2).length) := by rw [three, List.length_append, List.length_append]
  have T := fun (v' : Value) (m : List UInt8) (t : List UInt8) (x : World) (hk : Kn B x K v' m) (hm : m.length ≤ 60000000) (ht : t.length ≤ 4000000) (hb : Below B w x) => by
    have c := text_any B K v' m (bs t) x hk (by omega) (by rw [bs_size]; omega) (htab.on hb)
    rw [bs_list] at c
    exact c
  have G0 := Going.start h (.cells #[.string (bs y.1), .string (bs y.2.1), .string (bs y.2.2)] 36)
  have hR : Box3 w.heap.size y (w.alloc (.cells #[.string (bs y.1), .string (bs y.2.1), .string (bs y.2.2)] 36)) := heap_alloc_new w _
  have C1 := Lib.hid (T v l y.1 _ G0.kn (by omega) y0 (G0.step.below h))
  have H0 := Lib.hid (And.intro h (And.intro G0 hR))
  have HT := Lib.hid T
  clear h htab G0 hR T
  go_enter Tryd.func18, Tryd.ntmps18
  go_wp2_with fail
  refine C1.out.mono ?_
  rintro e w1 ⟨rfl, v1, k1, s1⟩
  have r1 : Box3 w.heap.size y w1 := H0.out.2.1.box s1 H0.out.2.2
  have G1 := H0.out.2.1.on k1 s1
  obtain ⟨-, c1, c2⟩ := r1.cells
  have C2 := Lib.hid (HT.out v1 _ y.2.1 w1 G1.kn (by rw [List.length_append]; omega) y1 (G1.step.below H0.out.1))
  have H1 := Lib.hid (And.intro G1 r1)
  clear G1 r1 k1 s1 C1
  go_wp2_with fail
  refine C2.out.mono ?_
  rintro e w2 ⟨rfl, v2, k2, s2⟩
  have r2 : Box3 w.heap.size y w2 := H1.out.1.box s2 H1.out.2
  have G2 := H1.out.1.on k2 s2
  clear c1 c2
  obtain ⟨-, -, c2⟩ := r2.cells
  have C3 := Lib.hid (HT.out v2 _ y.2.2 w2 G2.kn (by rw [List.length_append, List.length_append]; omega) y2 (G2.step.below H0.out.1))
  have H2 := Lib.hid (And.intro G2 r2)
  clear G2 r2 k2 s2 C2 H1
  go_wp2_with fail
  refine C3.out.mono ?_
  rintro e w3 ⟨rfl, v3, k3, s3⟩
  have H3 := Lib.hid (H2.out.1.on k3 s3)
  clear k3 s3 C3 H2 c2
  go_wp2
  go_end0
  refine ⟨rfl, v3, ?_, H3.out.step⟩
  rw [three, ← List.append_assoc, ← List.append_assoc]
  exact H3.out.kn

set_option maxHeartbeats 4000000 in
set_option maxRecDepth 100000 in
theorem ktuple_any (B K : Nat) (v : Value) (l : List UInt8) (p : L3 × L3) (w : World) (h : Kn B w K v l) (hs : l.length + (tupleB p).length ≤ 60000000) (hy : Small 4000000 p.1) (hz : Small 4000000 p.2) (htab : Tab B w) :
    Calls Tryd.prog 19 #[ptr K, agg6 p] w (Tied B K v l (tupleB p) w) := by
  obtain ⟨y0, y1, y2⟩ := hy
  have hl : (tupleB p).length = ((textB p.1.1).length + ((textB p.1.2.1).length + (textB p.1.2.2).length)) + (three p.2).length := by rw [tupleB, List.length_append, three, List.length_append, List.length_append]
  have T := fun (v' : Value) (m : List UInt8) (t : List UInt8) (x : World) (hk : Kn B x K v' m) (hm : m.length ≤ 60000000) (ht : t.length ≤ 4000000) (hb : Below B w x) => by
    have c := text_any B K v' m (bs t) x hk (by omega) (by rw [bs_size]; omega) (htab.on hb)
    rw [bs_list] at c
    exact c
  have TS := fun (v' : Value) (m : List UInt8) (x : World) (hk : Kn B x K v' m) (hm : m.length + (three p.2).length ≤ 60000000) (hb : Below B w x) => ksubject_any B K v' m p.2 x hk hm hz (htab.on hb)
  have G0 := Going.start h (.cells (cells6 p).toArray 38)
  have hR : (w.alloc (.cells (cells6 p).toArray 38)).heap[w.heap.size]? = some (.cells (cells6 p).toArray 38 (0, 0)) := heap_alloc_new w _
  have cc : ∀ x : World, x.heap[w.heap.size]? = some (.cells (cells6 p).toArray 38 (0, 0)) → x.cell? ⟨w.heap.size, 0, none⟩ = some (.string (bs p.1.1)) ∧ x.cell? ⟨w.heap.size, 1, none⟩ = some (.string (bs p.1.2.1)) ∧ x.cell? ⟨w.heap.size, 2, none⟩ = some (.string (bs p.1.2.2)) ∧
      x.cell? ⟨w.heap.size, 3, none⟩ = some (.string (bs p.2.1)) ∧ x.cell? ⟨w.heap.size, 4, none⟩ = some (.string (bs p.2.2.1)) ∧ x.cell? ⟨w.heap.size, 5, none⟩ = some (.string (bs p.2.2.2)) := fun x hx =>
    ⟨by rw [Lib.cell_of_heap hx]; rfl, by rw [Lib.cell_of_heap hx]; rfl, by rw [Lib.cell_of_heap hx]; rfl, by rw [Lib.cell_of_heap hx]; rfl, by rw [Lib.cell_of_heap hx]; rfl, by rw [Lib.cell_of_heap hx]; rfl⟩
  have C1 := Lib.hid (T v l p.1.1 _ G0.kn (by omega) y0 (G0.step.below h))
  have H0 := Lib.hid (And.intro h (And.intro G0 hR))
  have HT := Lib.hid (And.intro T (And.intro TS cc))
  clear h htab G0 hR T TS cc
  go_enter Tryd.func19, Tryd.ntmps19
  go_wp2_with fail
  refine C1.out.mono ?_
  rintro e w1 ⟨rfl, v1, k1, s1⟩
  have r1 := H0.out.2.1.box s1 H0.out.2.2
  have G1 := H0.out.2.1.on k1 s1
  obtain ⟨-, c1, -⟩ := HT.out.2.2 w1 r1
  have C2 := Lib.hid (HT.out.1 v1 _ p.1.2.1 w1 G1.kn (by rw [List.length_append]; omega) y1 (G1.step.below H0.out.1))
  have H1 := Lib.hid (And.intro G1 r1)
  clear G1 r1 k1 s1 C1
  go_wp2_with fail
  refine C2.out.mono ?_
  rintro e w2 ⟨rfl, v2, k2, s2⟩
  have r2 := H1.out.1.box s2 H1.out.2
  have G2 := H1.out.1.on k2 s2
  clear c1
  obtain ⟨-, -, c2, -⟩ := HT.out.2.2 w2 r2
  have C3 := Lib.hid (HT.out.1 v2 _ p.1.2.2 w2 G2.kn (by rw [List.length_append, List.length_append]; omega) y2 (G2.step.below H0.out.1))
  have H2 := Lib.hid (And.intro G2 r2)
  clear G2 r2 k2 s2 C2 H1
  go_wp2_with fail
  refine C3.out.mono ?_
  rintro e w3 ⟨rfl, v3, k3, s3⟩
  have r3 := H2.out.1.box s3 H2.out.2
  have G3 := H2.out.1.on k3 s3
  clear c2
  obtain ⟨-, -, -, c3, c4, c5⟩ := HT.out.2.2 w3 r3
  have C4 := Lib.hid (HT.out.2.1 v3 _ w3 G3.kn (by rw [List.length_append, List.length_append, List.length_append]; omega) (G3.step.below H0.out.1))
  have H3 := Lib.hid G3
  clear G3 r3 k3 s3 C3 H2
  go_wp2_with fail
  refine C4.out.mono ?_
  rintro e w4 ⟨rfl, v4, k4, s4⟩
  have H4 := Lib.hid (H3.out.on k4 s4)
  clear k4 s4 C4 H3 c3 c4 c5
  go_wp2
  go_end0
  refine ⟨rfl, v4, ?_, H4.out.step⟩
  rw [tupleB, three, ← List.append_assoc, ← List.append_assoc, ← List.append_assoc]
  exact H4.out.kn
end Knot
end Go.Proofs.YtoeaapomjjclaaaDoor
