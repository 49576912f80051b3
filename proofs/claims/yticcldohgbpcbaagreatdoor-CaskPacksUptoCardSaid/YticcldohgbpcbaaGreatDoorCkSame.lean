/-
  Layer 10 (cask): tract.Same, at a node whose lists of kids lie in rows of their own, and the same node once more.
-/
import Derived.Test.YticcldohgbpcbaaGreatDoorCkMap
import Derived.Test.YticcldohgbpcbaaGreatDoorCkRows
import Derived.Test.YticcldohgbpcbaaGreatDoorMgMem
import Derived.Deep.LoopGhost
import Derived.BigQuiet
import Derived.BigRegion
namespace Go.Proofs.YticcldohgbpcbaaGreatDoor
open Go.RowKit Go.Sort
namespace Ck
open Knot (Turns NewRow)
open Tr (Nd none0 node4 own_slice own_open own_cut RowAt IsNode IsNodes Kids size sizes size_pos walk_rows IsElem)
open Gr (cellsV cellsV_append cellsV_one elN)

abbrev tN : TypeId := 50
theorem own_one {w : World} {g B : Nat} {a b c d : Value} (h : w.heap[g]? = some (.cells #[a, b, c, d] tN (0, 0))) (hB : B ≤ g) : w.ownsRow B tN 4 (.slice (some ⟨g, 0, none⟩) 1 1) 1 [a, b, c, d] :=
  ⟨rfl, .inr ⟨g, 1, #[a, b, c, d], rfl, hB, h, Nat.le_refl _, by unfold maxLen; omega, rfl, rfl⟩⟩
theorem last_at {g L cap : Nat} : ∀ W, (Instr.indexAt 48 (.slice (some ⟨g, 0, none⟩) (L + 1) cap) (.int .i64 (L : Int))).run Tryz.prog W = .ok (.pointer (some ⟨g, L * 4, none⟩)) W := fun W => by
  rw [run_indexAt_slice W _ _ _ _ _ _ Tr.elemN, if_pos ⟨by omega, by omega⟩, Tr.sizeN]
  have e : ((L : Int)).toNat = L := by omega
  simp only [Result.andThen_ok, e, Addr.add_lit, Nat.zero_add]
theorem cut_nodes {g L cap : Nat} (h : L ≤ cap) : ∀ W, (Instr.slice 48 (.slice (some ⟨g, 0, none⟩) (L + 1) cap) none (some (.int .i64 (L : Int))) none).run Tryz.prog W = .ok (.slice (some ⟨g, 0, none⟩) L cap) W := fun W => by
  rw [run_slice_h W 48 (some ⟨g, 0, none⟩) (L + 1) cap Tr.elemN .i64 (L : Int) (by omega) (by omega), Tr.sizeN]
  have e : ((L : Int)).toNat = L := by omega
  simp only [Result.andThen_ok, sliced, e, Nat.zero_mul, Nat.sub_zero]
  congr 2
  split <;> rfl
def set4 (x : World) (R : Nat) (a b c d : Value) : World := (((x.setCell ⟨R, 0, none⟩ a).setCell ⟨R, 1, none⟩ b).setCell ⟨R, 2, none⟩ c).setCell ⟨R, 3, none⟩ d
theorem set4_box {x : World} {R : Nat} {a b c d : Value} (h : x.heap[R]? = some (.cells #[a, b, c, d] tN (0, 0))) (a' b' c' d' : Value) : (set4 x R a' b' c' d').heap[R]? = some (.cells #[a', b', c', d'] tN (0, 0)) :=
  Lib.heap_setCell_same (i := 3) (Lib.heap_setCell_same (i := 2) (Lib.heap_setCell_same (i := 1) (Lib.heap_setCell_same (i := 0) h a') b') c') d'
theorem set4_turns (x : World) (R : Nat) (a b c d : Value) : Turns (fun k => k = R) x (set4 x R a b c d) :=
  (((Gr.set_own x R 0 a).setCell (p := ⟨R, 1, none⟩) rfl _).setCell (p := ⟨R, 2, none⟩) rfl _).setCell (p := ⟨R, 3, none⟩) rfl _
theorem own_no_map {w : World} {B c n : Nat} {T : TypeId} {v : Value} {xs : List Value} {M : Nat} {G : List Nat} (h : w.ownsRow B T c v n xs) (hm : Came w M G) : v.ownBlock ≠ some M := fun e => by
  rcases h.2 with ⟨rfl, -⟩ | ⟨g, cap, cur, rfl, hb, hg, -⟩
  · cases e
  · obtain rfl : g = M := Option.some.inj e
    obtain ⟨es, cl, hm, -⟩ := hm
    rw [hg] at hm
    cases hm
/-- What the loop of Same holds: the nodes that are still to come, as they lie on the left and on the right. -/
structure Sm (w : World) (M R0 R1 : Nat) (k : Nat) (lv rv : Value) (ns : List Nd) (us vs : List Value) (G Gd : List Nat) (x : World) : Prop where
  tot : sizes ns = k
  own1 : x.ownsRow w.heap.size tN 4 lv ns.length (cellsV us)
  own2 : x.ownsRow w.heap.size tN 4 rv ns.length (cellsV vs)
  apart : ∀ b, lv.ownBlock = some b → rv.ownBlock ≠ some b
  nl : NodesR w ns us G
  nr : IsNodes w ns vs
  nodup : G.Nodup ∧ ∀ g ∈ G, g ∉ Gd
  gd : ∀ g ∈ Gd, IsCells w g
  came : Came x M Gd
  low : w.heap.size ≤ M
  below : Below w.heap.size w x
  box0 : ∃ a b c d, x.heap[R0]? = some (.cells #[a, b, c, d] tN (0, 0))
  box1 : ∃ a b c d, x.heap[R1]? = some (.cells #[a, b, c, d] tN (0, 0))
  offL : lv.ownBlock ≠ some R0 ∧ lv.ownBlock ≠ some R1
  offR : rv.ownBlock ≠ some R0 ∧ rv.ownBlock ≠ some R1
  small : k ≤ 300
set_option maxHeartbeats 8000000 in
set_option maxRecDepth 100000 in
theorem same_any (n : Nd) (u v : Value) (G : List Nat) (w : World) (hl : NodeR w n u G) (hG : G.Nodup) (hr : IsNode w n v) (hz : size n ≤ 300) :
    Calls Tryz.prog 57 #[u, v] w fun e x => e = .returned (.bool true) ∧ Below w.heap.size w x := by
  obtain ⟨ao, cap, us0, rfl, -, -⟩ := hl.open
  obtain ⟨bo, dap, vs0, rfl, -, -⟩ := hr.open
  obtain ⟨q1, q2, q3, q4⟩ := Gr.two_boxes w #[.int .i64 n.kind, .string n.ta, .string n.tb, .slice ao n.kids.length cap] #[.int .i64 n.kind, .string n.ta, .string n.tb, .slice bo n.kids.length dap] tN tN
  have H0 := Lib.hid (And.intro q1 (And.intro q2 (And.intro q3 q4)))
  have HN := Lib.hid (And.intro hl (And.intro hG hr))
  clear q1 q2 q3 q4 hl hG hr
  go_enter Tryz.func57, Tryz.ntmps57
  go_upto_region 1 with fail
  generalize (w.alloc (.cells #[.int .i64 n.kind, .string n.ta, .string n.tb, .slice ao n.kids.length cap] 50)).alloc (.cells #[.int .i64 n.kind, .string n.ta, .string n.tb, .slice bo n.kids.length dap] 50) = X at *
  obtain ⟨x0, x1, x2, x3⟩ := box4 H0.out.2.1
  obtain ⟨z0, z1, z2, z3⟩ := box4 H0.out.2.2.1
  go_cut [5, 6] (fun s5 s6 wx => ∃ g h : Nat, g ≠ h ∧ X.heap.size ≤ g ∧ X.heap.size ≤ h ∧ s5 = .slice (some ⟨g, 0, none⟩) 1 1 ∧ s6 = .slice (some ⟨h, 0, none⟩) 1 1 ∧ Hid (wx.heap[g]? = some (.cells #[.int .i64 n.kind, .string n.ta, .string n.tb, .slice ao n.kids.length cap] tN (0, 0)) ∧ wx.heap[h]? = some (.cells #[.int .i64 n.kind, .string n.ta, .string n.tb, .slice bo n.kids.length dap] tN (0, 0)) ∧ Below X.heap.size X wx))
  case first =>
    have l1 : w.heap.size < X.heap.size := (Array.getElem?_eq_some_iff.1 H0.out.2.1).1
    have l2 : w.heap.size + 1 < X.heap.size := (Array.getElem?_eq_some_iff.1 H0.out.2.2.1).1
    have n1 : ¬ w.heap.size = X.heap.size := by omega
    have n2 : ¬ w.heap.size + 1 = X.heap.size := by omega
    have n3 : ¬ w.heap.size = X.heap.size + 1 := by omega
    have n4 : ¬ w.heap.size + 1 = X.heap.size + 1 := by omega
    go_region
    · go_wp2_with fail
      go_meet
      case rel =>
        obtain ⟨p1, p2, p3, -⟩ := Gr.two_boxes X #[.int .i64 n.kind, .string n.ta, .string n.tb, .slice ao n.kids.length cap] #[.int .i64 n.kind, .string n.ta, .string n.tb, .slice bo n.kids.length dap] tN tN
        exact ⟨_, _, by omega, by omega, by omega, rfl, rfl, Lib.hid ⟨p2, p3, p1.drew⟩⟩
    · go_wp2_with fail
      go_meet
      case rel =>
        obtain ⟨p1, p2, p3, -⟩ := Gr.two_boxes X #[.int .i64 n.kind, .string n.ta, .string n.tb, .slice bo n.kids.length dap] #[.int .i64 n.kind, .string n.ta, .string n.tb, .slice ao n.kids.length cap] tN tN
        exact ⟨_, _, by omega, by omega, by omega, rfl, rfl, Lib.hid ⟨p3, p2, p1.drew⟩⟩
  case rest =>
    obtain ⟨g, h, hgh, hXg, hXh, rfl, rfl, HC⟩ := hcut
    clear x0 x1 x2 x3 z0 z1 z2 z3
    have hX : w.heap.size + 2 = X.heap.size := H0.out.2.2.2.symm
    have hwX : Below w.heap.size w wc := H0.out.1.trans (HC.out.2.2.mono H0.out.1.size)
    have hI : Sm w wc.heap.size w.heap.size (w.heap.size + 1) (size n) (.slice (some ⟨g, 0, none⟩) 1 1) (.slice (some ⟨h, 0, none⟩) 1 1) [n] [node4 n.kind n.ta n.tb (.slice ao n.kids.length cap)] [node4 n.kind n.ta n.tb (.slice bo n.kids.length dap)] G [] (wc.alloc (.map #[] 0)) := by
      have al := Tr.fresh_one wc (.map #[] 0)
      have hk : ∀ {r : Nat} {o : Obj}, wc.heap[r]? = some o → (wc.alloc (.map #[] 0)).heap[r]? = some o := fun h => (al.block _ (Array.getElem?_eq_some_iff.1 h).1).trans h
      refine ⟨by simp [sizes], own_one (hk HC.out.1) (by omega), own_one (hk HC.out.2.1) (by omega), fun b e1 e2 => ?_, NodesR.one HN.out.1, ?_, ⟨HN.out.2.1, fun g _ hg => (by cases hg)⟩, fun g hg => (by cases hg), Came.made wc, hwX.size, hwX.trans (al.mono hwX.size), ?_, ?_, ⟨fun e => ?_, fun e => ?_⟩, ⟨fun e => ?_, fun e => ?_⟩, ?_⟩
      · obtain rfl : g = b := Option.some.inj e1
        exact hgh (Option.some.inj e2).symm
      · rw [IsNodes]
        exact ⟨_, [], rfl, HN.out.2.2, by rw [IsNodes]⟩
      · exact ⟨_, _, _, _, hk ((HC.out.2.2.block _ (by omega)).trans H0.out.2.1)⟩
      · exact ⟨_, _, _, _, hk ((HC.out.2.2.block _ (by omega)).trans H0.out.2.2.1)⟩
      · obtain rfl : g = w.heap.size := Option.some.inj e; omega
      · obtain rfl : g = w.heap.size + 1 := Option.some.inj e; omega
      · obtain rfl : h = w.heap.size := Option.some.inj e; omega
      · obtain rfl : h = w.heap.size + 1 := Option.some.inj e; omega
      · exact hz
    have HI := Lib.hid hI
    have HWC := Lib.hid (show w.heap.size + 2 ≤ wc.heap.size by have := HC.out.2.2.size; omega)
    clear hI hwX HC H0 HN hgh hXg hXh hX
    generalize hR : w.heap.size = R at *
    have hmk : ∀ W, (Instr.makeMap tPairs none).run Tryz.prog W = .ok (.map (some W.heap.size)) (W.alloc (.map #[] 0)) := fun W => by simp [Instr.makeMap]
    go_wp2_with fail
    clear hmk
    go_loopg [5, 6] (size n) (fun k lv rv wr => ∃ ns us vs G Gd, Hid (Sm w wc.heap.size R (R + 1) k lv rv ns us vs G Gd wr))
    case atStart => exact ⟨_, _, _, _, _, HI⟩
    case round =>
      clear HI
      obtain ⟨ns, us, vs, G, Gd, HH⟩ := hrel
      rcases List.eq_nil_or_concat ns with rfl | ⟨ns', m, rfl⟩
      · obtain ⟨lo, lc, hv⟩ := own_slice HH.out.own1
        obtain ⟨ro, rc, hv2⟩ := own_slice HH.out.own2
        have HB := Lib.hid HH.out.below
        subst hv hv2
        clear HH
        go_wp2_with fail
        go_ret
        exact ⟨rfl, by have := HB.out; rwa [hR] at this⟩
      · rw [List.concat_eq_append] at HH
        have h0 := HH.out
        obtain ⟨us', uu, G1, G2, rfl, hl1, hl2, rfl⟩ := h0.nl.last
        obtain ⟨vs', vv, rfl, hr1, hr2⟩ := nodes_last h0.nr
        obtain ⟨mo, mc, ks, rfl, -, hkG⟩ := hl2.open
        obtain ⟨mo2, mc2, ks2, rfl, -, hk2⟩ := hr2.kids
        have o1 := h0.own1
        have o2 := h0.own2
        rw [List.length_append, List.length_singleton] at o1 o2
        obtain ⟨g1, c1, rfl, hB1, hlt1, hc1, hce1⟩ := own_open o1
        obtain ⟨g2, c2, rfl, hB2, hlt2, hc2, hce2⟩ := own_open o2
        have e1 := cells_len (nodes_size hl1.is)
        have e2 := cells_len (nodes_size hr1)
        rw [hl1.len] at e1
        rw [hr1.len] at e2
        have hcc1 : ∀ j w', [Value.int .i64 m.kind, .string m.ta, .string m.tb, .slice mo m.kids.length mc][j]? = some w' → wr.cell? ⟨g1, ns'.length * 4 + j, none⟩ = some w' := fun j w' hj => by
          refine hce1 _ _ ?_
          rw [cellsV_append, ← e1, List.getElem?_append_right (by omega), Nat.add_sub_cancel_left, cellsV_one]
          simpa [Value.cells] using hj
        have hcc2 : ∀ j w', [Value.int .i64 m.kind, .string m.ta, .string m.tb, .slice mo2 m.kids.length mc2][j]? = some w' → wr.cell? ⟨g2, ns'.length * 4 + j, none⟩ = some w' := fun j w' hj => by
          refine hce2 _ _ ?_
          rw [cellsV_append, ← e2, List.getElem?_append_right (by omega), Nat.add_sub_cancel_left, cellsV_one]
          simpa [Value.cells] using hj
        have r1 := own_cut o1 (m := ns'.length) (by omega)
        have r2 := own_cut o2 (m := ns'.length) (by omega)
        rw [cellsV_append, ← e1, List.take_left] at r1
        rw [cellsV_append, ← e2, List.take_left] at r2
        have hL : ns'.length ≤ 300 := by
          have := Tr.sizes_len (ns' ++ [m])
          have := h0.tot
          have := h0.small
          rw [List.length_append, List.length_singleton] at *
          omega
        have ix1 := last_at (g := g1) (L := ns'.length) (cap := c1)
        have ix2 := last_at (g := g2) (L := ns'.length) (cap := c2)
        have sl1 := cut_nodes (g := g1) (L := ns'.length) (cap := c1) (by omega)
        have sl2 := cut_nodes (g := g2) (L := ns'.length) (cap := c2) (by omega)
        obtain ⟨p0, p1, p2, p3, hb0⟩ := h0.box0
        obtain ⟨s0, s1, s2, s3, hb1⟩ := h0.box1
        have hne : (ns'.length : Int) + 1 > 0 := by omega
        have nR1 : ¬ (g1 = R ∨ g1 = R + 1) := fun e => e.elim (fun e => h0.offL.1 (congrArg some e)) fun e => h0.offL.2 (congrArg some e)
        have nR2 : ¬ (g2 = R ∨ g2 = R + 1) := fun e => e.elim (fun e => h0.offR.1 (congrArg some e)) fun e => h0.offR.2 (congrArg some e)
        have hXc : ∀ x, Turns (fun k => k = R ∨ k = R + 1) wr.drew x → (x.cell? ⟨g1, ns'.length * 4, none⟩ = some (.int .i64 m.kind) ∧ x.cell? ⟨g1, ns'.length * 4 + 1, none⟩ = some (.string m.ta) ∧ x.cell? ⟨g1, ns'.length * 4 + 2, none⟩ = some (.string m.tb) ∧ x.cell? ⟨g1, ns'.length * 4 + 3, none⟩ = some (.slice mo m.kids.length mc)) ∧
            (x.cell? ⟨g2, ns'.length * 4, none⟩ = some (.int .i64 m.kind) ∧ x.cell? ⟨g2, ns'.length * 4 + 1, none⟩ = some (.string m.ta) ∧ x.cell? ⟨g2, ns'.length * 4 + 2, none⟩ = some (.string m.tb) ∧ x.cell? ⟨g2, ns'.length * 4 + 3, none⟩ = some (.slice mo2 m.kids.length mc2)) := fun x hx =>
          ⟨⟨(hx.cell (p := ⟨g1, _, none⟩) hlt1 nR1).trans (hcc1 0 _ rfl), (hx.cell (p := ⟨g1, _, none⟩) hlt1 nR1).trans (hcc1 1 _ rfl), (hx.cell (p := ⟨g1, _, none⟩) hlt1 nR1).trans (hcc1 2 _ rfl), (hx.cell (p := ⟨g1, _, none⟩) hlt1 nR1).trans (hcc1 3 _ rfl)⟩,
            (hx.cell (p := ⟨g2, _, none⟩) hlt2 nR2).trans (hcc2 0 _ rfl), (hx.cell (p := ⟨g2, _, none⟩) hlt2 nR2).trans (hcc2 1 _ rfl), (hx.cell (p := ⟨g2, _, none⟩) hlt2 nR2).trans (hcc2 2 _ rfl), (hx.cell (p := ⟨g2, _, none⟩) hlt2 nR2).trans (hcc2 3 _ rfl)⟩
        have hF1 := set4_turns wr.drew R (.int .i64 m.kind) (.string m.ta) (.string m.tb) (.slice mo m.kids.length mc)
        have hF2 := set4_turns (set4 wr.drew R (.int .i64 m.kind) (.string m.ta) (.string m.tb) (.slice mo m.kids.length mc)) (R + 1) (.int .i64 m.kind) (.string m.ta) (.string m.tb) (.slice mo2 m.kids.length mc2)
        have hk0 := set4_box (x := wr.drew) hb0 (.int .i64 m.kind) (.string m.ta) (.string m.tb) (.slice mo m.kids.length mc)
        have hk1 : (set4 wr.drew R (.int .i64 m.kind) (.string m.ta) (.string m.tb) (.slice mo m.kids.length mc)).heap[R + 1]? = some (.cells #[s0, s1, s2, s3] tN (0, 0)) := (hF1.block (R + 1) (Array.getElem?_eq_some_iff.1 hb1).1 (by omega)).trans hb1
        have hk0' := (hF2.block R (Array.getElem?_eq_some_iff.1 hk0).1 (by omega)).trans hk0
        have hk1' := set4_box hk1 (.int .i64 m.kind) (.string m.ta) (.string m.tb) (.slice mo2 m.kids.length mc2)
        have HX := Lib.hid hXc
        have HT1 := Lib.hid (hF1.mono (G := fun k => k = R ∨ k = R + 1) fun _ _ e => .inl e)
        have HT2 := Lib.hid (hF2.mono (G := fun k => k = R ∨ k = R + 1) fun _ _ e => .inr e)
        have HKK := Lib.hid (And.intro hk0' hk1')
        have HB0 := Lib.hid (And.intro hb0 hk1)
        have HRow := Lib.hid (And.intro r1 (And.intro r2 (And.intro hB1 (And.intro hB2 (And.intro hlt1 hlt2)))))
        have HNd := Lib.hid (And.intro hl1 (And.intro hkG (And.intro hr1 hk2)))
        have HNo := Lib.hid (And.intro nR1 nR2)
        clear e1 e2 hcc1 hcc2 r1 r2 hXc hF1 hF2 hk0 hk1 hk0' hk1' hb0 hb1 o1 o2 hce1 hce2 h0 hl1 hl2 hr1 hr2 hkG hk2 hB1 hB2 hlt1 hlt2 nR1 nR2
        go_upto_region 5 with fail
        clear hne
        refine Order.region_begin (S := Turns (fun k => k = R ∨ k = R + 1) wr.drew) (by kernel_rfl) ?_
        refine Order.reads_any (idx := [0, 1, 2, 3, 4, 5, 6, 7]) (by kernel_rfl) (Turns.refl _ _) (fun _ _ _ _ _ h => Order.noPanic_put h) 2 _ _ (by decide +kernel) ?_
        simp only [Order.pick, List.getElem?_toArray, List.getElem?_cons_zero, List.getElem?_cons_succ]
        repeat (first
          | (refine Order.reads_off (by rfl) ?_
             simp only [Act.put, List.setIfInBounds_toArray, List.set_cons_zero, List.set_cons_succ])
          | (apply Order.reads_on
             · rfl
             · intro x hx
               first
                 | (go_simp; rfl)
                 | (obtain ⟨⟨i0, i1, i2, i3⟩, j0, j1, j2, j3⟩ := HX.out x hx
                    go_simp; rfl)
             simp only [Act.put, List.setIfInBounds_toArray, List.set_cons_zero, List.set_cons_succ]))
        refine Order.reads_end ?_
        obtain ⟨k0, k1, k2, k3⟩ := box4 HB0.out.1
        have f0 := Lib.frozen_of_heap HB0.out.1 0
        have f1 := Lib.frozen_of_heap HB0.out.1 1
        have f2 := Lib.frozen_of_heap HB0.out.1 2
        have f3 := Lib.frozen_of_heap HB0.out.1 3
        apply Order.acts_any (R := (Turns (fun k => k = R ∨ k = R + 1))) (fun h k => h.trans k fun _ _ h => h) (i := 8)
        · rfl
        · decide +kernel
        · rfl
        unfold Oper.wp
        go_simp
        refine ⟨HT1.out, ?_⟩
        clear k0 k1 k2 k3 f0 f1 f2 f3
        change wpAnyH _ _ _ _ (Turns (fun k => k = R ∨ k = R + 1) (set4 wr.drew R (.int .i64 m.kind) (.string m.ta) (.string m.tb) (.slice mo m.kids.length mc))) _ _ _ (set4 wr.drew R (.int .i64 m.kind) (.string m.ta) (.string m.tb) (.slice mo m.kids.length mc))
        generalize set4 wr.drew R (.int .i64 m.kind) (.string m.ta) (.string m.tb) (.slice mo m.kids.length mc) = Y at *
        obtain ⟨k0, k1, k2, k3⟩ := box4 HB0.out.2
        have f0 := Lib.frozen_of_heap HB0.out.2 0
        have f1 := Lib.frozen_of_heap HB0.out.2 1
        have f2 := Lib.frozen_of_heap HB0.out.2 2
        have f3 := Lib.frozen_of_heap HB0.out.2 3
        apply Order.acts_any (R := (Turns (fun k => k = R ∨ k = R + 1))) (fun h k => h.trans k fun _ _ h => h) (i := 9)
        · rfl
        · decide +kernel
        · rfl
        unfold Oper.wp
        go_simp
        refine ⟨HT2.out, ?_⟩
        clear k0 k1 k2 k3 f0 f1 f2 f3
        refine wpAnyH_done (by decide +kernel) ?_ _
        refine NoPanic.normal ?_
        change Exit.then _ _ _ _ (set4 Y (R + 1) (.int .i64 m.kind) (.string m.ta) (.string m.tb) (.slice mo2 m.kids.length mc2))
        generalize set4 Y (R + 1) (.int .i64 m.kind) (.string m.ta) (.string m.tb) (.slice mo2 m.kids.length mc2) = F at *
        have hTF : Turns (fun k => k = R ∨ k = R + 1) wr F := ((Turns.of_below (Below.refl wr.heap.size wr).drew).trans HT1.out fun _ _ h => h).trans HT2.out fun _ _ h => h
        have HTF := Lib.hid hTF
        obtain ⟨k0, k1, k2, k3⟩ := box4 HKK.out.1
        obtain ⟨j0, j1, j2, j3⟩ := box4 HKK.out.2
        clear hTF HT1 HT2 HB0 HX ix1 ix2
        have hFb : Below w.heap.size w F := HH.out.below.trans (HTF.out.below HH.out.below.size fun k hk => by rcases hk with e | e <;> omega)
        have HFb := Lib.hid hFb
        have hrowF : F.ownsRow w.heap.size tN 4 (.slice (some ⟨g1, 0, none⟩) ns'.length c1) ns'.length (cellsV us') ∧ F.ownsRow w.heap.size tN 4 (.slice (some ⟨g2, 0, none⟩) ns'.length c2) ns'.length (cellsV vs') :=
          ⟨Tr.own_turn HRow.out.1 HTF.out fun k hk => by obtain rfl : g1 = k := Option.some.inj hk; exact HNo.out.1, Tr.own_turn HRow.out.2.1 HTF.out fun k hk => by obtain rfl : g2 = k := Option.some.inj hk; exact HNo.out.2⟩
        have HRF := Lib.hid hrowF
        have hcm : Came F wc.heap.size Gd := HH.out.came.turn HTF.out fun e => by have := HWC.out; rcases e with e | e <;> omega
        have HCm := Lib.hid hcm
        clear hFb hrowF hcm HRow
        go_wp2_with fail
        go_quiet (fail)
        rcases HNd.out.2.1 with ⟨hk, hG2⟩ | ⟨hk, p, cur, T, Gs, rfl, hp, hrow, hks, rfl⟩
        · have HFr := Lib.hid (fun x => fresh_none wc.heap.size m.kids.length mo mo2 mc mc2 (by rw [hk]; rfl) x)
          have HK := Lib.hid (And.intro hk hG2)
          clear hk hG2
          go_wp2_with fail
          refine (HFr.out _).mono ?_
          rintro e y ⟨rfl, hy⟩
          have hby : Below F.heap.size F y := by rw [hy]; exact below_drewN (Below.refl _ _) _
          have hsz : sizes (ns' ++ [m]) = sizes ns' + size m := by rw [Tr.sizes_append]; simp [sizes]
          have hmp := size_pos m
          have htot := HH.out.tot
          have hsm := HH.out.small
          have hnd := HH.out.nodup
          have hS : Sm w wc.heap.size R (R + 1) (sizes ns') (.slice (some ⟨g1, 0, none⟩) ns'.length c1) (.slice (some ⟨g2, 0, none⟩) ns'.length c2) ns' us' vs' G1 Gd y :=
            ⟨rfl, Tr.own_below HRF.out.1 hby, Tr.own_below HRF.out.2 hby, HH.out.apart, HNd.out.1, HNd.out.2.2.1, ⟨(List.nodup_append.1 hnd.1).1, fun g hg => hnd.2 g (List.mem_append_left _ hg)⟩, HH.out.gd, HCm.out.turn (F := fun _ => False) (Turns.of_below hby) id, HH.out.low, HFb.out.trans (hby.mono HFb.out.size),
              ⟨_, _, _, _, (hby.block _ (Array.getElem?_eq_some_iff.1 HKK.out.1).1).trans HKK.out.1⟩, ⟨_, _, _, _, (hby.block _ (Array.getElem?_eq_some_iff.1 HKK.out.2).1).trans HKK.out.2⟩, HH.out.offL, HH.out.offR, by omega⟩
          have HS := Lib.hid hS
          have hlt : sizes ns' < gk := by omega
          clear hy hby k0 k1 k2 k3 j0 j1 j2 j3 hS HH HRF HFb HCm HKK HNd HTF hsz htot hsm hnd hmp
          go_wp2_with fail
          go_roundg (sizes ns')
          case rel => exact ⟨_, _, _, _, _, HS⟩
          case measure => exact hlt
        · obtain ⟨p', o', rfl, hrow2⟩ := HNd.out.2.2.2.1 hk
          have hks2 := HNd.out.2.2.2.2
          have hpos := List.length_pos_iff.2 hk
          have hnd := HH.out.nodup
          have hpG : p ∉ Gd := hnd.2 p (List.mem_append_right _ (List.mem_cons_self ..))
          have hcl : ∀ r, IsCells w r → ∀ x, Below w.heap.size w x → IsCells x r := fun r ⟨c, t, h⟩ x hx => ⟨c, t, (hx.block r (Array.getElem?_eq_some_iff.1 h).1).trans h⟩
          have HFr := Lib.hid (fun x (hx : Below F.heap.size F x) => fresh_some wc.heap.size p p' o' m.kids.length mc mc2 Gd x hpos (HCm.out.turn (F := fun _ => False) (Turns.of_below hx) id) (fun g hg => hcl g (HH.out.gd g hg) x (HFb.out.trans (hx.mono HFb.out.size))) (hcl p ⟨_, _, hp⟩ x (HFb.out.trans (hx.mono HFb.out.size))) hpG)
          have HR := Lib.hid (And.intro hrow (And.intro hks (And.intro hrow2 hks2)))
          have HP := Lib.hid (And.intro hk (And.intro hp hcl))
          clear hk hp hrow hks hrow2 hks2 hpos hpG hcl hnd
          go_wp2_with fail
          refine (HFr.out _ (below_drewN (Below.refl _ _) _)).mono ?_
          rintro e y ⟨rfl, hcy, hty⟩
          have hty2 : Turns (fun k => k = wc.heap.size) F y := (Turns.of_below (below_drewN (Below.refl _ _) _)).trans hty fun _ _ h => h
          have hlow := HH.out.low
          have hby : Below w.heap.size w y := HFb.out.trans (hty2.below HFb.out.size fun k hk => by have e : k = wc.heap.size := hk; omega)
          have q1 := Tr.own_turn HRF.out.1 hty2 fun k hk e => own_no_map HRF.out.1 HCm.out (by rw [hk, e])
          have q2 := Tr.own_turn HRF.out.2 hty2 fun k hk e => own_no_map HRF.out.2 HCm.out (by rw [hk, e])
          have hwc2 := HWC.out
          have b0 := (hty2.block R (Array.getElem?_eq_some_iff.1 HKK.out.1).1 (by omega)).trans HKK.out.1
          have b1 := (hty2.block (R + 1) (Array.getElem?_eq_some_iff.1 HKK.out.2).1 (by omega)).trans HKK.out.2
          have HY := Lib.hid (And.intro hby (And.intro q1 (And.intro q2 (And.intro hcy (And.intro b0 b1)))))
          obtain ⟨-, -, -, k3⟩ := box4 b0
          clear hcy hty hty2 hlow hby q1 q2 hwc2 b0 b1 j0 j1 j2 j3 k0 k1 k2 HRF HFb HCm HKK HFr
          obtain ⟨ti, tz, tb, TE, hT⟩ := elN
          have HT := Lib.hid (And.intro TE hT)
          have hkl : m.kids.length ≤ 300 := by
            have h1 := Tr.sizes_len m.kids
            have h2 := HH.out.tot
            have h3 := HH.out.small
            have h4 := Tr.size_kids m
            rw [Tr.sizes_append] at h2
            simp [sizes] at h2
            omega
          have h1len := cells_len (nodes_size HR.out.2.1.is)
          rw [HR.out.2.1.len] at h1len
          have h2len := cells_len (nodes_size HR.out.2.2.2)
          rw [HR.out.2.2.2.len] at h2len
          clear TE hT
          go_wp2_with (at_builtin; refine walk_rows HT.out.1 rfl _ _ rfl rfl rfl HY.out.2.1 HY.out.1.size (m := m.kids.length) h1len (row_cells (HR.out.1.below HY.out.1 |> fun h => h) (HR.out.2.1.is.below HY.out.1)) (nodes_one (HR.out.2.1.is)) (by omega) (Nat.le_trans (Nat.mul_le_mul_left _ HT.out.2) (by omega)) ?_)
          intro v3 z r3 gr3 n3
          have t3 : Turns (fun k => (Value.slice (some ⟨g1, 0, none⟩) ns'.length c1).ownBlock = some k) y z := Turns.of_grown gr3 fun k hk => hk
          have hB1 : w.heap.size ≤ g1 := (HY.out.2.1.lt g1 rfl).1
          have hbz : Below w.heap.size w z := HY.out.1.trans (t3.below HY.out.1.size fun k hk => by obtain rfl : g1 = k := Option.some.inj hk; exact hB1)
          have hap : g1 ≠ g2 := fun e => HH.out.apart g1 rfl (by rw [e]; rfl)
          have q2 := Tr.own_turn HY.out.2.2.1 t3 fun k hk e => by
            obtain rfl : g2 = k := Option.some.inj hk
            exact hap (Option.some.inj e)
          have b0 := (t3.block R (Array.getElem?_eq_some_iff.1 HY.out.2.2.2.2.1).1 (fun e => HH.out.offL.1 e)).trans HY.out.2.2.2.2.1
          have b1 := (t3.block (R + 1) (Array.getElem?_eq_some_iff.1 HY.out.2.2.2.2.2).1 (fun e => HH.out.offL.2 e)).trans HY.out.2.2.2.2.2
          have hcz := HY.out.2.2.2.1.turn t3 fun e => own_no_map HY.out.2.1 HY.out.2.2.2.1 e
          have hRl := (Array.getElem?_eq_some_iff.1 HY.out.2.2.2.2.1).1
          have hRl2 := (Array.getElem?_eq_some_iff.1 HY.out.2.2.2.2.2).1
          have hg2l := (HY.out.2.2.1.lt g2 rfl).2
          have offL : v3.ownBlock ≠ some R ∧ v3.ownBlock ≠ some (R + 1) := ⟨fun e => (n3 R e).elim (fun h => HH.out.offL.1 h) fun h => by omega, fun e => (n3 (R + 1) e).elim (fun h => HH.out.offL.2 h) fun h => by omega⟩
          have apL : v3.ownBlock ≠ some g2 := fun e => (n3 g2 e).elim (fun h => hap (Option.some.inj h)) fun h => by omega
          obtain ⟨v3o, v3c, rfl⟩ := own_slice r3
          have HZ := Lib.hid (And.intro hbz (And.intro r3 (And.intro q2 (And.intro hcz (And.intro b0 (And.intro b1 (And.intro offL apL)))))))
          obtain ⟨-, -, -, j3⟩ := box4 b1
          clear hbz r3 gr3 n3 t3 hB1 hap q2 b0 b1 hcz hRl hRl2 hg2l offL apL k3 h1len HY
          go_wp2_with (at_builtin; refine walk_rows HT.out.1 rfl _ _ rfl rfl rfl HZ.out.2.2.1 HZ.out.1.size (m := m.kids.length) h2len (row_cells (HR.out.2.2.1.below HZ.out.1 |> fun h => h) (HR.out.2.2.2.below HZ.out.1)) (nodes_one HR.out.2.2.2) (by omega) (Nat.le_trans (Nat.mul_le_mul_left _ HT.out.2) (by omega)) ?_)
          intro v4 zz r4 gr4 n4
          have t4 : Turns (fun k => (Value.slice (some ⟨g2, 0, none⟩) ns'.length c2).ownBlock = some k) z zz := Turns.of_grown gr4 fun k hk => hk
          have hB2 : w.heap.size ≤ g2 := (HZ.out.2.2.1.lt g2 rfl).1
          have hbzz : Below w.heap.size w zz := HZ.out.1.trans (t4.below HZ.out.1.size fun k hk => by obtain rfl : g2 = k := Option.some.inj hk; exact hB2)
          have q1 := Tr.own_turn HZ.out.2.1 t4 fun k hk e => by
            obtain rfl : g2 = k := Option.some.inj e
            exact HZ.out.2.2.2.2.2.2.2 hk
          have b0 := (t4.block R (Array.getElem?_eq_some_iff.1 HZ.out.2.2.2.2.1).1 (fun e => HH.out.offR.1 e)).trans HZ.out.2.2.2.2.1
          have b1 := (t4.block (R + 1) (Array.getElem?_eq_some_iff.1 HZ.out.2.2.2.2.2.1).1 (fun e => HH.out.offR.2 e)).trans HZ.out.2.2.2.2.2.1
          have hcz := HZ.out.2.2.2.1.turn t4 fun e => own_no_map HZ.out.2.2.1 HZ.out.2.2.2.1 e
          have hRl := (Array.getElem?_eq_some_iff.1 HZ.out.2.2.2.2.1).1
          have hRl2 := (Array.getElem?_eq_some_iff.1 HZ.out.2.2.2.2.2.1).1
          have offR : v4.ownBlock ≠ some R ∧ v4.ownBlock ≠ some (R + 1) := ⟨fun e => (n4 R e).elim (fun h => HH.out.offR.1 h) fun h => by omega, fun e => (n4 (R + 1) e).elim (fun h => HH.out.offR.2 h) fun h => by omega⟩
          have apart : ∀ b, (Value.slice v3o (ns'.length + m.kids.length) v3c).ownBlock = some b → v4.ownBlock ≠ some b := fun b hb e => (n4 b e).elim (fun h => by
            obtain rfl : g2 = b := Option.some.inj h
            exact HZ.out.2.2.2.2.2.2.2 hb) fun h => by have := (HZ.out.2.1.lt b hb).2; omega
          have hsz : sizes (ns' ++ [m]) = sizes ns' + size m := by rw [Tr.sizes_append]; simp [sizes]
          have hsk : sizes (ns' ++ m.kids) + 1 = sizes ns' + size m := by rw [Tr.sizes_append, Tr.size_kids]; omega
          have htot := HH.out.tot
          have hsm := HH.out.small
          have hnd := HH.out.nodup
          have hnd1 := List.nodup_append.1 hnd.1
          have hnd2 := List.nodup_cons.1 hnd1.2.1
          have hgk : sizes (ns' ++ m.kids) < gk := by omega
          obtain ⟨v4o, v4c, rfl⟩ := own_slice r4
          have hS : Sm w wc.heap.size R (R + 1) (sizes (ns' ++ m.kids)) (.slice v3o (ns'.length + m.kids.length) v3c) (.slice v4o (ns'.length + m.kids.length) v4c) (ns' ++ m.kids) (us' ++ ks) (vs' ++ ks2) (G1 ++ Gs) (p :: Gd) zz := by
            refine ⟨rfl, ?_, ?_, apart, HNd.out.1.append HR.out.2.1, nodes_join HNd.out.2.2.1 HR.out.2.2.2, ⟨?_, fun g hg => ?_⟩, fun g hg => ?_, hcz, HH.out.low, hbzz, ⟨_, _, _, _, b0⟩, ⟨_, _, _, _, b1⟩, HZ.out.2.2.2.2.2.2.1, offR, by omega⟩
            · rw [List.length_append, cellsV_append, hR]; exact q1
            · rw [List.length_append, cellsV_append, hR]; exact r4
            · rw [List.nodup_append]
              exact ⟨hnd1.1, hnd2.2, fun a ha b hb => hnd1.2.2 a ha b (List.mem_cons_of_mem _ hb)⟩
            · rcases List.mem_append.1 hg with hg | hg
              · intro hm
                rcases List.mem_cons.1 hm with rfl | hm
                · exact hnd1.2.2 g hg g (List.mem_cons_self ..) rfl
                · exact hnd.2 g (List.mem_append_left _ hg) hm
              · intro hm
                rcases List.mem_cons.1 hm with rfl | hm
                · exact hnd2.1 hg
                · exact hnd.2 g (List.mem_append_right _ (List.mem_cons_of_mem _ hg)) hm
            · rcases List.mem_cons.1 hg with rfl | hg
              · exact ⟨_, _, HP.out.2.1⟩
              · exact HH.out.gd g hg
          have HS := Lib.hid hS
          clear hS t4 hB2 hbzz q1 b0 b1 hcz hRl hRl2 offR apart hsz hsk htot hsm hnd hnd1 hnd2 r4 gr4 n4 HZ HR HP HH HNd HT j3 h2len
          go_wp2_with fail
          go_roundg (sizes (ns' ++ m.kids))
          case rel => exact ⟨_, _, _, _, _, HS⟩
          case measure => exact hgk
end Ck
end Go.Proofs.YticcldohgbpcbaaGreatDoor
