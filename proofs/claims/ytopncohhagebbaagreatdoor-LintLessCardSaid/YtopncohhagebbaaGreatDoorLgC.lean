/-
  Layer 9's program: the steps from a relation to those it hangs on.
  Layer 9's program: the steps of a relation's references.
  Layer 9's program: the web: of each relation, at its place, the steps.
-/
import Derived.Test.YtopncohhagebbaaGreatDoorLgB
import Derived.Laws.MakeOwn
namespace Go.Proofs.YtopncohhagebbaaGreatDoor
open Go.RowKit
namespace Ly
open Tr (Nd IsExpr node4 none0 size good errOf refs direct RowAt own_open own_slice own_below own_turn IsElem Rf walk_rows wp_rows direct_any refs_any RefsAt)
open Gr (Al Rl Ty IsAl IsRl IsTy IsCf Lies cellsV al_at ty_at new_cells alV box1 box2 two_boxes)
open Cn (box3)
open Knot (Turns NewRow)
open Lt (It Re relsL relsT place Stp spot allowSteps thisSteps ledTo refSteps refsSteps stepsOf StrRow str_at strs_elem)

abbrev tStp : TypeId := 128
def cellsP (l : List Stp) : List Value := l.flatMap fun s => [.int .i64 (s.1 : Int), .bool s.2]
theorem cellsP_append (l m : List Stp) : cellsP (l ++ m) = cellsP l ++ cellsP m := List.flatMap_append
theorem cellsP_len (l : List Stp) : (cellsP l).length = l.length * 2 := by
  induction l with
  | nil => rfl
  | cons a l ih =>
    have e : cellsP (a :: l) = [.int .i64 (a.1 : Int), .bool a.2] ++ cellsP l := List.flatMap_cons
    rw [e, List.length_append, ih, List.length_cons]
    simp only [List.length_cons, List.length_nil]
    omega
theorem cellsP_at : ∀ (l : List Stp) {j : Nat} (h : j < l.length), (cellsP l)[j * 2]? = some (.int .i64 (l[j].1 : Int)) ∧ (cellsP l)[j * 2 + 1]? = some (.bool l[j].2)
  | a :: l, 0, _ => ⟨rfl, rfl⟩
  | a :: l, j + 1, h => by
    have hj : j < l.length := by simpa using h
    obtain ⟨h0, h1⟩ := cellsP_at l hj
    have e : cellsP (a :: l) = [.int .i64 (a.1 : Int), .bool a.2] ++ cellsP l := List.flatMap_cons
    have e3 : ([.int .i64 (a.1 : Int), .bool a.2] : List Value).length = 2 := rfl
    refine ⟨?_, ?_⟩
    · rw [e, List.getElem?_append_right (by omega), e3, show (j + 1) * 2 - 2 = j * 2 by omega]; exact h0
    · rw [e, List.getElem?_append_right (by omega), e3, show (j + 1) * 2 + 1 - 2 = j * 2 + 1 by omega]; exact h1
def StpRow (B : Nat) (x : World) (v : Value) (l : List Stp) : Prop := x.ownsRow B tStp 2 v l.length (cellsP l)
theorem elemSt : Tryz.prog.underlying 121 = some (.slice (Tryz.prog.elem 121)) := by kernel_rfl
theorem sizeSt : ∀ w, (sizeOf (Tryz.prog.elem 121)).run Tryz.prog w = .ok 2 w := fun w => by kernel_rfl
set_option maxRecDepth 100000 in
theorem stps_elem : ∃ i z b, IsElem Tryz.prog 121 tStp i z 2 b ∧ b ≤ 100 := by
  refine ⟨_, _, _, ⟨by kernel_rfl, rfl, rfl, by kernel_rfl, rfl, by kernel_rfl, by omega⟩, ?_⟩
  exact of_decide_eq_true (by kernel_rfl)
theorem one_str {w : World} {B : Nat} (h : B ≤ w.heap.size) (s : ByteArray) : StrRow B (w.alloc (.cells #[.string s] 9)) (.slice (some ⟨w.heap.size, 0, none⟩) 1 1) [s] :=
  ⟨rfl, .inr ⟨w.heap.size, 1, #[.string s], rfl, h, heap_alloc_new w _, Nat.le_refl _, by decide, rfl, rfl⟩⟩
theorem ledTo_via {L : List Re} {ty : ByteArray} {x : Rf} {j : Nat} (hv : x.via.toList.isEmpty = false) (hp : place L (ty, x.via) = some j) (hj : j < L.length) : ledTo L ty x = L[j].2.allow.map (·.ty) := by
  rw [ledTo, if_neg (by rw [hv]; decide), Lt.spot_place hp, List.getElem?_eq_getElem hj]
  rfl
theorem map_take {α β : Type} (f : α → β) {l : List α} {k : Nat} (h : k < l.length) : (l.take (k + 1)).map f = (l.take k).map f ++ [f l[k]] := by
  rw [List.take_succ_eq_append_getElem h, List.map_append]
  rfl
section
variable {l : List Ty} {ao ro : Option Addr} {cap rc b : Nat}
set_option maxHeartbeats 8000000 in
set_option maxRecDepth 100000 in
theorem ledTo_any (hw : Wd l) (w : World) (h : LayAt w l ao ro rc b) (ty : ByteArray) (x : Rf) (h1 : ty.size ≤ 16) (h2 : x.via.size ≤ 16) (hp : x.via.toList.isEmpty = false → (place (relsL l) (ty, x.via)).isSome = true)
    (hs : ∀ y ∈ relsL l, y.2.allow.length ≤ 1000) :
    Calls Tryz.prog 109 #[layV ao l.length cap ro (relsL l).length rc b, .string ty, refV x] w fun e y => ∃ u, e = .returned u ∧ StrRow w.heap.size y u (ledTo (relsL l) ty x) ∧ Below w.heap.size w y := by
  obtain ⟨via, rel, odd⟩ := x
  obtain ⟨q1, q2, q3, q4⟩ := two_boxes w #[.slice ao l.length cap, .slice ro (relsL l).length rc, .map (some b)] #[.string via, .string rel, .bool odd] tLay tRf
  have H0 := Lib.hid (And.intro q1 (And.intro q2 (And.intro q3 q4)))
  have HA := Lib.hid (And.intro hw (And.intro h (And.intro h1 (And.intro h2 hs))))
  clear hw h h1 h2 hs q1 q2 q3 q4
  go_enter Tryz.func109, Tryz.ntmps109
  go_upto_region 1 with fail
  generalize (w.alloc (.cells #[.slice ao l.length cap, .slice ro (relsL l).length rc, .map (some b)] tLay)).alloc (.cells #[.string via, .string rel, .bool odd] tRf) = X at *
  obtain ⟨b0, b1, b2⟩ := box3 H0.out.2.1
  obtain ⟨d0, d1, d2⟩ := box3 H0.out.2.2.1
  cases hnm : via.toList.isEmpty with
  | true =>
    have HE := Lib.hid (show ledTo (relsL l) ty ⟨via, rel, odd⟩ = [ty] by rw [ledTo, if_pos hnm])
    go_wp2_with fail
    go_ret
    refine ⟨_, rfl, ?_, H0.out.1.trans ((Tr.fresh_one X _).mono H0.out.1.size)⟩
    rw [HE.out]
    exact one_str H0.out.1.size ty
  | false =>
    obtain ⟨j, hj⟩ := Option.isSome_iff_exists.1 (hp hnm)
    obtain ⟨hjl, -⟩ := Lt.place_some hj
    have hled := ledTo_via (x := ⟨via, rel, odd⟩) hnm hj hjl
    have hspot : spot (relsL l) (ty, via) = j := Lt.spot_place hj
    have HL := Lib.hid (HA.out.2.1.below H0.out.1)
    obtain ⟨rvs, hrels⟩ := HL.out.rels
    obtain ⟨g, q, vo, vc, no, nc, ev, us, hix, hg, ⟨c0, c1, c2, c3, c4, c5, c6, c7, c8⟩, hla, -⟩ := re_at hrels rc hjl
    have hlk := fun x (hx : Below X.heap.size X x) => (HL.out.below hx).find (Nat.le_trans HA.out.2.2.1 (show 16 ≤ maxLen by decide)) (Nat.le_trans HA.out.2.2.2.1 (show 16 ≤ maxLen by decide))
    rw [hspot] at hlk
    have hsc := HA.out.2.2.2.2 _ (List.getElem_mem hjl)
    generalize (relsL l)[j] = rr at *
    have hsx := H0.out.2.2.2
    have HX := Lib.hid (show ∀ x, Below X.heap.size X.drew x → (x.cell? ⟨w.heap.size, 1, none⟩ = some (.slice ro (relsL l).length rc) ∧ x.cell? ⟨w.heap.size, 2, none⟩ = some (.map (some b))) ∧ x.cell? ⟨w.heap.size + 1, 0, none⟩ = some (.string via) ∧
        (Instr.lookup 77 (.map (some b)) (.agg #[.string ty, .string via]) false).run Tryz.prog x = .ok (.int .i64 (j : Int)) x ∧ x.cell? ⟨g, q + 3, none⟩ = some (.slice vo rr.2.allow.length vc) from fun x hx => by
      have hb : Below X.heap.size X x := (Below.refl _ _).drew.trans hx
      exact ⟨⟨(hb.cell (p := ⟨w.heap.size, 1, none⟩) (by simp only; omega)).trans b1, (hb.cell (p := ⟨w.heap.size, 2, none⟩) (by simp only; omega)).trans b2⟩, (hb.cell (p := ⟨w.heap.size + 1, 0, none⟩) (by simp only; omega)).trans d0, hlk x hb, (hb.cell (p := ⟨g, q + 3, none⟩) hg).trans c3⟩)
    have HLA := Lib.hid (And.intro hla (And.intro hled hsc))
    have hbig : rr.2.allow.length ≤ 9223372036854775807 := hla.big
    clear hla hled hsc hlk c0 c1 c2 c3 c4 c5 c6 c7 c8 hg hp hsx
    go_upto_region 4 with fail
    clear b0 b1 b2 d0 d1 d2
    refine Order.region_begin (S := Below X.heap.size X.drew) (by kernel_rfl) ?_
    refine Order.reads_any (idx := [0, 1, 2, 3, 4, 5, 6, 7, 8, 9, 10, 11, 12, 13, 14]) (by kernel_rfl) (Below.refl _ _) (fun _ _ _ _ _ h => Order.noPanic_put h) 0 _ _ (by decide +kernel) ?_
    simp only [Order.pick, List.getElem?_toArray, List.getElem?_cons_zero, List.getElem?_cons_succ]
    repeat (first
      | (refine Order.reads_off (by rfl) ?_
         simp only [Act.put, List.setIfInBounds_toArray, List.set_cons_zero, List.set_cons_succ])
      | (apply Order.reads_on
         · rfl
         · intro x hx
           first
             | (go_simp; rfl)
             | (obtain ⟨⟨i1, i2⟩, i3, i4, i5⟩ := HX.out x hx
                go_simp; rfl)
         simp only [Act.put, List.setIfInBounds_toArray, List.set_cons_zero, List.set_cons_succ]))
    refine Order.reads_end ?_
    refine wpAnyH_done (by decide +kernel) ?_ _
    refine NoPanic.normal ?_
    go_wp2_with fail
    go_loopw [7, 29] (fun fv i wr => ∃ k : Nat, k ≤ rr.2.allow.length ∧ i = .int .i64 k ∧ Hid (StrRow X.heap.size wr fv ((rr.2.allow.take k).map (·.ty)) ∧ Below X.heap.size X wr)) (fun _ i _ => rr.2.allow.length - (intOf i).toNat)
    case atStart => exact ⟨0, by omega, rfl, Lib.hid ⟨World.ownsRow_nil _ _ _ _, (Below.refl _ _).drew⟩⟩
    case round =>
      obtain ⟨k, hk, rfl, HJ⟩ := hrel
      obtain ⟨oo, oc, rfl⟩ := own_slice HJ.out.1
      by_cases hkt : k < rr.2.allow.length
      · obtain ⟨g2, q2, hix2, hg2, c0', c1', c2'⟩ := al_at HLA.out.1 vc hkt
        have c0 := (HJ.out.2.cell (p := ⟨g2, q2, none⟩) hg2).trans c0'
        have c1 := (HJ.out.2.cell (p := ⟨g2, q2 + 1, none⟩) hg2).trans c1'
        have c2 := (HJ.out.2.cell (p := ⟨g2, q2 + 2, none⟩) hg2).trans c2'
        have htk := map_take (fun a : Al => a.ty) hkt
        have hlen : ((rr.2.allow.take k).map (·.ty)).length ≤ 1000 := by
          have := HLA.out.2.2
          rw [List.length_map, List.length_take]; omega
        generalize rr.2.allow[k] = a at *
        have al1 := Tr.fresh_one wr (.cells #[.string a.ty, .string a.rel, .bool a.wild] tAllow)
        have hk1 := heap_alloc_new wr (.cells #[.string a.ty, .string a.rel, .bool a.wild] tAllow)
        obtain ⟨e0, e1, e2⟩ := box3 hk1
        have al2 := Tr.fresh_one (wr.alloc (.cells #[.string a.ty, .string a.rel, .bool a.wild] tAllow)) (.cells #[.string a.ty] 9)
        have al := al1.trans (al2.mono al1.size)
        have HY := Lib.hid (And.intro (own_below HJ.out.1 al) (And.intro (HJ.out.2.trans (al.mono HJ.out.2.size)) htk))
        have hy0 : X.heap.size ≤ ((wr.alloc (.cells #[.string a.ty, .string a.rel, .bool a.wild] tAllow)).alloc (.cells #[.string a.ty] 9)).heap.size := HY.out.2.1.size
        obtain ⟨ti, tz, tb, TE, hT⟩ := strs_elem
        have HTE := Lib.hid (And.intro TE hT)
        clear c0' c1' c2' hg2 hk1 al1 al2 al htk TE hT
        generalize hLL : (rr.2.allow.take k).map (fun a => a.ty) = LL at *
        go_wp2_with (at_builtin; refine walk_rows HTE.out.1 rfl _ _ rfl rfl rfl HY.out.1 hy0 (m := 1) rfl (new_cells _ _ [.string a.ty] (by simp)) (by intro u' hu'; simp at hu'; subst hu'; rfl) (by omega) (Nat.le_trans (Nat.mul_le_mul_left _ HTE.out.2) (by omega)) ?_)
        intro v2 z2 r2 gr2 n2
        have HR := Lib.hid (And.intro r2 (HY.out.2.1.grown gr2 hy0 fun k hk => (World.ownsRow.lt HY.out.1 k hk).1))
        clear r2 gr2 n2 hy0 e0 e1 e2
        go_wp2_with fail
        go_roundw
        case rel =>
          refine ⟨k + 1, by omega, by go_num, Lib.hid ⟨?_, HR.out.2⟩⟩
          show World.ownsRow _ _ _ _ _ _ _
          rw [HY.out.2.2, List.length_append, List.map_append]
          exact HR.out.1
        case measure => simp [intOf]; omega
      · have hk' : k = rr.2.allow.length := by omega
        subst hk'
        have hr := HJ.out.1
        rw [List.take_length] at hr
        have HR := Lib.hid (And.intro hr (H0.out.1.trans (HJ.out.2.mono H0.out.1.size)))
        clear hr HJ
        go_wp2_with fail
        go_ret
        refine ⟨_, rfl, ?_, HR.out.2⟩
        rw [HLA.out.2.1, List.take_length]
        exact World.ownsRow.mono HR.out.1 H0.out.1.size
theorem allowSteps_take (L : List Re) (o : Bool) {l : List Al} {k : Nat} (h : k < l.length) : allowSteps L o (l.take (k + 1)) = allowSteps L o (l.take k) ++ (if l[k].rel.toList.isEmpty then [] else [(spot L (l[k].ty, l[k].rel), o)]) := by
  rw [allowSteps, List.take_succ_eq_append_getElem h, List.filter_append, List.map_append]
  congr 1
  cases he : l[k].rel.toList.isEmpty <;> simp [he]
theorem allowSteps_len (L : List Re) (o : Bool) (l : List Al) : (allowSteps L o l).length ≤ l.length := by
  rw [allowSteps, List.length_map]
  exact List.length_filter_le _ _
def thisPart (L : List Re) (r : Rl) (o : Bool) : List Stp := if direct r.expr o false then allowSteps L o r.allow else []
theorem thisPart_len (L : List Re) (r : Rl) (o : Bool) : (thisPart L r o).length ≤ r.allow.length := by
  unfold thisPart
  split
  · exact allowSteps_len L o r.allow
  · exact Nat.zero_le _
def thisUpto (L : List Re) (r : Rl) : Nat → List Stp
  | 0 => []
  | 1 => thisPart L r false
  | _ => thisPart L r false ++ thisPart L r true
theorem thisUpto_all (L : List Re) (r : Rl) : thisUpto L r 2 = thisSteps L r := rfl
theorem thisUpto_more (L : List Re) (r : Rl) {j : Nat} (h : j < 2) : thisUpto L r (j + 1) = thisUpto L r j ++ thisPart L r (decide (j = 1)) := by
  match j, h with
  | 0, _ => rfl
  | 1, _ => rfl
theorem thisUpto_len (L : List Re) (r : Rl) {j : Nat} (h : j ≤ 2) : (thisUpto L r j).length ≤ 2 * r.allow.length := by
  have h1 := thisPart_len L r false
  have h2 := thisPart_len L r true
  match j, h with
  | 0, _ => exact Nat.zero_le _
  | 1, _ => show (thisPart L r false).length ≤ _; omega
  | 2, _ => show (thisPart L r false ++ thisPart L r true).length ≤ _; rw [List.length_append]; omega
theorem elemBo : Tryz.prog.underlying 169 = some (.slice (Tryz.prog.elem 169)) := by kernel_rfl
theorem sizeBo : ∀ w, (sizeOf (Tryz.prog.elem 169)).run Tryz.prog w = .ok 1 w := fun w => by kernel_rfl
set_option maxHeartbeats 8000000 in
set_option maxRecDepth 100000 in
theorem stepsOfThis_any (hw : Wd l) (w : World) (h : LayAt w l ao ro rc b) (X0 : Re) (hX : X0 ∈ relsL l) (hs : X0.2.allow.length ≤ 1000) (vo no : Option Addr) (vc nc : Nat) (ev : Value) (us : List Value) (hla : Lies IsAl 3 w vo X0.2.allow us) (hex : IsExpr 0 w X0.2.expr ev) :
    Calls Tryz.prog 65 #[layV ao l.length cap ro (relsL l).length rc b, reV X0.1.1 X0.1.2 X0.2.name (.slice vo X0.2.allow.length vc) X0.2.expr.kind X0.2.expr.ta X0.2.expr.tb (.slice no X0.2.expr.kids.length nc) ev] w
      fun e y => ∃ u, e = .returned u ∧ StpRow w.heap.size y u (thisSteps (relsL l) X0.2) ∧ Below w.heap.size w y := by
  have hwd := hw.mem hX
  obtain ⟨q1, q2, q3, q4⟩ := two_boxes w #[.slice ao l.length cap, .slice ro (relsL l).length rc, .map (some b)] (reC X0.1.1 X0.1.2 X0.2.name (.slice vo X0.2.allow.length vc) X0.2.expr.kind X0.2.expr.ta X0.2.expr.tb (.slice no X0.2.expr.kids.length nc) ev) tLay tRe
  have H0 := Lib.hid (And.intro q1 (And.intro q2 (And.intro q3 q4)))
  have HA := Lib.hid (And.intro h (And.intro hla (And.intro hex (And.intro hwd hs))))
  have hbig : X0.2.allow.length ≤ 9223372036854775807 := hla.big
  clear hw h hX hs hla hex hwd q1 q2 q3 q4
  generalize X0.2 = r at *
  generalize X0.1 = xa at *
  go_enter Tryz.func65, Tryz.ntmps65
  go_upto_region 2 with fail
  generalize (w.alloc (.cells #[.slice ao l.length cap, .slice ro (relsL l).length rc, .map (some b)] tLay)).alloc (.cells (reC xa.1 xa.2 r.name (.slice vo r.allow.length vc) r.expr.kind r.expr.ta r.expr.tb (.slice no r.expr.kids.length nc) ev) tRe) = X at *
  have hkb := heap_alloc_new X (.cells #[.bool false, .bool true] 4)
  have alb := Tr.fresh_one X (.cells #[.bool false, .bool true] 4)
  have hsb : (X.alloc (.cells #[.bool false, .bool true] 4)).heap.size = X.heap.size + 1 := by simp
  have HY := Lib.hid (show Below w.heap.size w (X.alloc (.cells #[.bool false, .bool true] 4)) ∧ (X.alloc (.cells #[.bool false, .bool true] 4)).heap[w.heap.size]? = _ ∧ (X.alloc (.cells #[.bool false, .bool true] 4)).heap[w.heap.size + 1]? = _ ∧ (X.alloc (.cells #[.bool false, .bool true] 4)).heap[X.heap.size]? = _ ∧ w.heap.size + 2 ≤ X.heap.size ∧ X.heap.size + 1 = (X.alloc (.cells #[.bool false, .bool true] 4)).heap.size from
    ⟨H0.out.1.trans (alb.mono H0.out.1.size), (alb.block _ (by have := H0.out.2.2.2; omega)).trans H0.out.2.1, (alb.block _ (by have := H0.out.2.2.2; omega)).trans H0.out.2.2.1, hkb, by have := H0.out.2.2.2; omega, hsb.symm⟩)
  clear hkb alb hsb H0
  go_wp2_with fail
  generalize X.alloc (.cells #[.bool false, .bool true] 4) = Y at *
  generalize X.heap.size = R2 at *
  go_loopw [5, 12] (fun fv i wr => ∃ j : Nat, j ≤ 2 ∧ i = .int .i64 j ∧ Hid (StpRow Y.heap.size wr fv (thisUpto (relsL l) r j) ∧ Below Y.heap.size Y wr)) (fun _ i _ => 2 - (intOf i).toNat)
  case atStart => exact ⟨0, by omega, rfl, Lib.hid ⟨World.ownsRow_nil _ _ _ _, Below.refl _ _⟩⟩
  case round =>
    obtain ⟨j, hj, rfl, HJ⟩ := hrel
    obtain ⟨oo, oc, rfl⟩ := own_slice HJ.out.1
    have hbw : Below w.heap.size w wr := HY.out.1.trans (HJ.out.2.mono HY.out.1.size)
    by_cases hlt : j < 2
    · have hkb := (HJ.out.2.block _ (by have := HY.out; omega)).trans HY.out.2.2.2.1
      have hc : wr.cell? ⟨R2, j, none⟩ = some (.bool (decide (j = 1))) := by
        rw [Lib.cell_of_heap hkb]
        match j, hlt with
        | 0, _ => rfl
        | 1, _ => rfl
      have hix : ∀ W, (Instr.indexAt 169 (.slice (some ⟨R2, 0, none⟩) 2 2) (.int .i64 (j : Int))).run Tryz.prog W = .ok (.pointer (some ⟨R2, j, none⟩)) W := fun W => by
        rw [run_indexAt_slice W _ _ _ _ _ _ elemBo, if_pos ⟨by omega, by omega⟩, sizeBo]
        have e : ((j : Int)).toNat = j := by omega
        simp only [Result.andThen_ok, e, Addr.add_lit, Nat.zero_add, Nat.mul_one]
      have hmore := thisUpto_more (relsL l) r hlt
      have hln := thisUpto_len (relsL l) r (j := j) (by omega)
      generalize decide (j = 1) = o at *
      have h1w := (HJ.out.2.block _ (by have := HY.out; omega)).trans HY.out.2.2.1
      obtain ⟨k0, k1, k2, k3, k4, k5, k6, k7, k8⟩ := box9 h1w
      have HD := Lib.hid (direct_any r.expr ev o wr (Nat.le_trans HA.out.2.2.2.1.2.2.2.2.2.2 (by decide)) HA.out.2.2.2.1.2.2.2.2.2.1 (HA.out.2.2.1.below hbw))
      have HM := Lib.hid (And.intro hmore (And.intro hln hbw))
      clear hkb hmore hln hbw h1w
      cases hd : direct r.expr o false with
      | false =>
        rw [hd] at HD
        have HE := Lib.hid (show thisUpto (relsL l) r (j + 1) = thisUpto (relsL l) r j by rw [HM.out.1, thisPart, hd]; simp)
        clear hd
        go_wp2_with fail
        refine HD.out.mono ?_
        rintro e x ⟨rfl, hx⟩
        have HX := Lib.hid (show StpRow Y.heap.size x _ _ ∧ Below Y.heap.size Y x from ⟨own_below HJ.out.1 hx, HJ.out.2.trans (hx.mono HJ.out.2.size)⟩)
        clear hx
        go_wp2_with fail
        go_roundw
        case rel => exact ⟨j + 1, by omega, by go_num, Lib.hid ⟨by rw [HE.out]; exact HX.out.1, HX.out.2⟩⟩
        case measure => simp [intOf]; omega
      | true =>
        rw [hd] at HD
        have HE := Lib.hid (show thisUpto (relsL l) r (j + 1) = thisUpto (relsL l) r j ++ allowSteps (relsL l) o r.allow by rw [HM.out.1, thisPart, hd]; rfl)
        clear hd
        go_wp2_with fail
        refine HD.out.mono ?_
        rintro e x ⟨rfl, hx⟩
        have HX := Lib.hid (show StpRow Y.heap.size x _ _ ∧ Below Y.heap.size Y x from ⟨own_below HJ.out.1 hx, HJ.out.2.trans (hx.mono HJ.out.2.size)⟩)
        clear hx k0 k1 k2 k3 k4 k5 k6 k7 k8
        obtain ⟨k0, k1, k2, k3, k4, k5, k6, k7, k8⟩ := box9 ((HX.out.2.block _ (by have := HY.out; omega)).trans HY.out.2.2.1)
        go_wp2_with fail
        clear k0 k1 k2 k3 k4 k5 k6 k7 k8 hc hix HD
        generalize thisUpto (relsL l) r j = LL at *
        go_loopw [5, 25] (fun fv i wr => ∃ k : Nat, k ≤ r.allow.length ∧ i = .int .i64 k ∧ Hid (StpRow Y.heap.size wr fv (LL ++ allowSteps (relsL l) o (r.allow.take k)) ∧ Below Y.heap.size Y wr)) (fun _ i _ => r.allow.length - (intOf i).toNat)
        case atStart => exact ⟨0, by omega, rfl, Lib.hid ⟨by simpa [allowSteps] using HX.out.1, HX.out.2⟩⟩
        case round =>
          clear HJ HX
          obtain ⟨k, hk, rfl, HK⟩ := hrel
          obtain ⟨oo2, oc2, rfl⟩ := own_slice HK.out.1
          have hbw2 : Below w.heap.size w wr := HY.out.1.trans (HK.out.2.mono HY.out.1.size)
          by_cases hkt : k < r.allow.length
          · obtain ⟨g2, q2, hix2, hg2, c0', c1', c2'⟩ := al_at HA.out.2.1 vc hkt
            have c0 := (hbw2.cell (p := ⟨g2, q2, none⟩) hg2).trans c0'
            have c1 := (hbw2.cell (p := ⟨g2, q2 + 1, none⟩) hg2).trans c1'
            have c2 := (hbw2.cell (p := ⟨g2, q2 + 2, none⟩) hg2).trans c2'
            have htk := allowSteps_take (relsL l) o hkt
            have hlen2 := allowSteps_len (relsL l) o (r.allow.take k)
            rw [List.length_take] at hlen2
            have hsz := HA.out.2.2.2.1.2.2.2.2.1 _ (List.getElem_mem hkt)
            generalize r.allow[k] = a at *
            have al1 := Tr.fresh_one wr (.cells #[.string a.ty, .string a.rel, .bool a.wild] tAllow)
            have hk1 := heap_alloc_new wr (.cells #[.string a.ty, .string a.rel, .bool a.wild] tAllow)
            obtain ⟨e0, e1, e2⟩ := box3 hk1
            have hlk := (HA.out.1.below (hbw2.trans (al1.mono hbw2.size))).find (Nat.le_trans hsz.1 (show 16 ≤ maxLen by decide)) (Nat.le_trans hsz.2 (show 16 ≤ maxLen by decide))
            obtain ⟨l0, l1, l2⟩ := box3 (((HK.out.2.trans (al1.mono HK.out.2.size)).block _ (by have := HY.out; omega)).trans HY.out.2.1)
            have HK1 := Lib.hid (show StpRow Y.heap.size (wr.alloc (.cells #[.string a.ty, .string a.rel, .bool a.wild] tAllow)) _ _ ∧ Below Y.heap.size Y (wr.alloc (.cells #[.string a.ty, .string a.rel, .bool a.wild] tAllow)) from ⟨own_below HK.out.1 al1, HK.out.2.trans (al1.mono HK.out.2.size)⟩)
            have hbound : (LL ++ allowSteps (relsL l) o (r.allow.take k)).length ≤ 100000 := by
              have h3 := HM.out.2.1
              have h4 := HA.out.2.2.2.2
              rw [List.length_append]; omega
            have HT := Lib.hid htk
            clear c0' c1' c2' hg2 hk1 al1 htk hlen2 hsz hbw2
            cases he : a.rel.toList.isEmpty with
            | true =>
              have HN := Lib.hid (show allowSteps (relsL l) o (r.allow.take (k + 1)) = allowSteps (relsL l) o (r.allow.take k) by rw [HT.out, he]; simp)
              go_wp2_with fail
              go_roundw
              case rel => exact ⟨k + 1, by omega, by go_num, Lib.hid ⟨by rw [HN.out]; exact HK1.out.1, HK1.out.2⟩⟩
              case measure => simp [intOf]; omega
            | false =>
              have HN := Lib.hid (show allowSteps (relsL l) o (r.allow.take (k + 1)) = allowSteps (relsL l) o (r.allow.take k) ++ [(spot (relsL l) (a.ty, a.rel), o)] by rw [HT.out, he]; rfl)
              generalize spot (relsL l) (a.ty, a.rel) = sp at *
              have al2 := Tr.fresh_one (wr.alloc (.cells #[.string a.ty, .string a.rel, .bool a.wild] tAllow)) (.cells #[.int .i64 (sp : Int), .bool o] tStp)
              have HY2 := Lib.hid (And.intro (own_below HK1.out.1 al2) (HK1.out.2.trans (al2.mono HK1.out.2.size)))
              have hy0 : Y.heap.size ≤ ((wr.alloc (.cells #[.string a.ty, .string a.rel, .bool a.wild] tAllow)).alloc (.cells #[.int .i64 (sp : Int), .bool o] tStp)).heap.size := HY2.out.2.size
              obtain ⟨ti, tz, tb, TE, hT⟩ := stps_elem
              have HTE := Lib.hid (And.intro TE hT)
              clear al2 TE hT
              generalize hLK : LL ++ allowSteps (relsL l) o (r.allow.take k) = LK at *
              go_wp2_with (at_builtin; refine walk_rows HTE.out.1 rfl _ _ rfl rfl rfl HY2.out.1 hy0 (m := 1) rfl (new_cells _ _ [.int .i64 (sp : Int), .bool o] (by simp)) (by intro u' hu'; simp at hu'; rcases hu' with rfl | rfl <;> rfl) (by omega) (Nat.le_trans (Nat.mul_le_mul_left _ HTE.out.2) (by omega)) ?_)
              intro v2 z2 r2 gr2 n2
              have HR := Lib.hid (And.intro r2 (HY2.out.2.grown gr2 hy0 fun k hk => (World.ownsRow.lt HY2.out.1 k hk).1))
              clear r2 gr2 n2 hy0 e0 e1 e2 l0 l1 l2 hlk
              go_wp2_with fail
              go_roundw
              case rel =>
                refine ⟨k + 1, by omega, by go_num, Lib.hid ⟨?_, HR.out.2⟩⟩
                show World.ownsRow _ _ _ _ _ _ _
                rw [HN.out, ← List.append_assoc, hLK, List.length_append, cellsP_append]
                exact HR.out.1
              case measure => simp [intOf]; omega
          · have hk' : k = r.allow.length := by omega
            subst hk'
            have hr := HK.out.1
            rw [List.take_length] at hr
            have HR := Lib.hid (And.intro hr HK.out.2)
            clear hr HK hbw2
            go_wp2_with fail
            go_roundw
            case rel =>
              refine ⟨j + 1, by omega, by go_num, Lib.hid ⟨?_, HR.out.2⟩⟩
              rw [HE.out, List.take_length]
              exact HR.out.1
            case measure => simp [intOf]; omega
    · have hj' : j = 2 := by omega
      subst hj'
      have HR := Lib.hid (And.intro HJ.out.1 hbw)
      clear HJ hbw
      go_wp2_with fail
      go_ret
      refine ⟨_, rfl, ?_, HR.out.2⟩
      rw [← thisUpto_all]
      exact World.ownsRow.mono HR.out.1 HY.out.1.size
end
end Ly
end Go.Proofs.YtopncohhagebbaaGreatDoor

namespace Go.Proofs.YtopncohhagebbaaGreatDoor
open Go.RowKit
namespace Ly
open Tr (Nd IsExpr node4 none0 size good errOf refs direct RowAt own_open own_slice own_below own_turn IsElem Rf walk_rows wp_rows direct_any refs_any RefsAt)
open Gr (Al Rl Ty IsAl IsRl IsTy IsCf Lies cellsV al_at ty_at new_cells alV box1 box2 two_boxes)
open Cn (box3)
open Knot (Turns NewRow)
open Lt (It Re relsL relsT place Stp spot allowSteps thisSteps ledTo refSteps refsSteps stepsOf StrRow str_at strs_elem)
section
variable {l : List Ty} {ao ro : Option Addr} {cap rc b : Nat}
theorem refsSteps_take (L : List Re) (ty : ByteArray) {rl : List Rf} {k : Nat} (h : k < rl.length) : refsSteps L ty (rl.take (k + 1)) = refsSteps L ty (rl.take k) ++ refSteps L ty rl[k] := by
  rw [refsSteps, List.take_succ_eq_append_getElem h, List.flatMap_append]
  simp [refsSteps]
theorem refsSteps_len (L : List Re) (ty : ByteArray) (c : Nat) : ∀ (rl : List Rf), (∀ x ∈ rl, (ledTo L ty x).length ≤ c) → (refsSteps L ty rl).length ≤ rl.length * c
  | [], _ => by simp [refsSteps]
  | x :: rl, h => by
    have e : refsSteps L ty (x :: rl) = refSteps L ty x ++ refsSteps L ty rl := List.flatMap_cons
    have h1 := refsSteps_len L ty c rl fun y hy => h y (by simp [hy])
    have h2 := h x (by simp)
    have h3 : (refSteps L ty x).length = (ledTo L ty x).length := by rw [refSteps, List.length_map]
    rw [e, List.length_append, List.length_cons, Nat.add_mul]
    omega
theorem ledTo_len {L : List Re} {ty : ByteArray} {x : Rf} (hs : ∀ y ∈ L, y.2.allow.length ≤ 1000) : (ledTo L ty x).length ≤ 1000 := by
  unfold ledTo
  split
  · rw [List.length_singleton]; decide
  · cases h : L[spot L (ty, x.via)]? with
    | none => simp
    | some y =>
      have := hs y (List.mem_of_getElem? h)
      simpa using this
theorem ledTo_short {L : List Re} {ty : ByteArray} {x : Rf} (ht : ty.size ≤ 16) (hs : ∀ y ∈ L, ∀ a ∈ y.2.allow, a.ty.size ≤ 16) : ∀ t ∈ ledTo L ty x, t.size ≤ maxLen := fun t h => by
  have hm : (16 : Nat) ≤ maxLen := by decide
  unfold ledTo at h
  split at h
  · rw [List.mem_singleton] at h
    subst h
    omega
  · cases hg : L[spot L (ty, x.via)]? with
    | none => rw [hg] at h; cases h
    | some y =>
      rw [hg] at h
      obtain ⟨a, ha, rfl⟩ := List.mem_map.1 h
      have := hs y (List.mem_of_getElem? hg) a ha
      omega
theorem own_other {w : World} {B n : Nat} {e T : TypeId} {sz : Nat} {v : Value} {xs : List Value} {g : Nat} {cur : Array Value} {f : Nat × Nat} (h : w.ownsRow B e sz v n xs) (hg : w.heap[g]? = some (.cells cur T f)) (hne : T ≠ e) : ¬ v.ownBlock = some g := fun hk => by
  rcases h.2 with ⟨rfl, -⟩ | ⟨g', cap, cur', rfl, -, hg', -⟩
  · cases hk
  · obtain rfl : g' = g := Option.some.inj hk
    rw [hg'] at hg
    have := Option.some.inj hg
    injection this with _ h2 _
    exact hne h2.symm
theorem str_at' {B : Nat} {x : World} {v : Value} {l : List ByteArray} (h : StrRow B x v l) {j : Nat} (hj : j < l.length) :
    ∃ g, (∀ W, (Instr.indexAt 37 v (.int .i64 (j : Int))).run Tryz.prog W = .ok (.pointer (some ⟨g, j, none⟩)) W) ∧ B ≤ g ∧ (∃ cur, x.heap[g]? = some (.cells cur 9 (0, 0))) ∧ x.cell? ⟨g, j, none⟩ = some (.string l[j]) := by
  have h' : x.ownsRow B 9 1 v l.length (l.map Value.string) := h
  rcases h'.2 with ⟨-, h0⟩ | ⟨g, cap, cur, rfl, hb, hg, hn, -⟩
  · omega
  · refine ⟨g, fun W => ?_, hb, ⟨cur, hg⟩, ?_⟩
    · rw [run_indexAt_slice W _ _ _ _ _ _ Lt.elemS, if_pos ⟨by omega, by omega⟩, Lt.sizeS]
      have e : ((j : Int)).toNat = j := by omega
      simp only [Result.andThen_ok, e, Addr.add_lit, Nat.zero_add, Nat.mul_one]
    · have := h'.cells (g := g) rfl j (.string l[j]) (by rw [List.getElem?_map, List.getElem?_eq_getElem hj]; rfl)
      rwa [Tr.addp, Nat.zero_add] at this
theorem own_apart {w : World} {B B' n n' : Nat} {e e' : TypeId} {sz sz' : Nat} {v v' : Value} {xs xs' : List Value} (h : w.ownsRow B e sz v n xs) (h' : w.ownsRow B' e' sz' v' n' xs') (hne : e' ≠ e) : ∀ k, v'.ownBlock = some k → ¬ v.ownBlock = some k := fun k hk => by
  rcases h'.2 with ⟨rfl, -⟩ | ⟨g', cap, cur', rfl, -, hg', -⟩
  · cases hk
  · obtain rfl : g' = k := Option.some.inj hk
    exact own_other h hg' hne
theorem string_step : (9 : TypeId) ≠ tStp := by decide
theorem ref_step : tRf ≠ tStp := by decide
set_option maxHeartbeats 8000000 in
set_option maxRecDepth 100000 in
theorem stepsOfRefs_any (hw : Wd l) (w : World) (h : LayAt w l ao ro rc b) (X0 : Re) (hX : X0 ∈ relsL l) (hp : ∀ x ∈ refs X0.2.expr false, x.via.toList.isEmpty = false → (place (relsL l) (X0.1.1, x.via)).isSome = true) (hs : ∀ y ∈ relsL l, y.2.allow.length ≤ 1000)
    (vo no : Option Addr) (vc nc : Nat) (ev : Value) (hex : IsExpr 0 w X0.2.expr ev) :
    Calls Tryz.prog 66 #[layV ao l.length cap ro (relsL l).length rc b, reV X0.1.1 X0.1.2 X0.2.name (.slice vo X0.2.allow.length vc) X0.2.expr.kind X0.2.expr.ta X0.2.expr.tb (.slice no X0.2.expr.kids.length nc) ev] w
      fun e y => ∃ u, e = .returned u ∧ StpRow w.heap.size y u (refsSteps (relsL l) X0.1.1 (refs X0.2.expr false)) ∧ Below w.heap.size w y := by
  have hwd := hw.mem hX
  obtain ⟨q1, q2, q3, q4⟩ := two_boxes w #[.slice ao l.length cap, .slice ro (relsL l).length rc, .map (some b)] (reC X0.1.1 X0.1.2 X0.2.name (.slice vo X0.2.allow.length vc) X0.2.expr.kind X0.2.expr.ta X0.2.expr.tb (.slice no X0.2.expr.kids.length nc) ev) tLay tRe
  have H0 := Lib.hid (And.intro q1 (And.intro q2 (And.intro q3 q4)))
  have hshort := refs_short X0.2.expr false hwd.2.2.2.2.2.1
  have hrn := Tr.refs_len X0.2.expr false
  have HC5 := Lib.hid (refs_any X0.2.expr ev _ (Nat.le_trans hwd.2.2.2.2.2.2 (by decide)) hwd.2.2.2.2.2.1 (hex.below q1))
  have hrn2 : (refs X0.2.expr false).length ≤ 24 := Nat.le_trans hrn hwd.2.2.2.2.2.2
  have HA := Lib.hid (And.intro hw (And.intro h (And.intro hwd hs)))
  have HPP := Lib.hid (And.intro hp hshort)
  clear hw h hX hp hs hex hwd q1 q2 q3 q4 hrn hshort
  generalize X0.2 = r at *
  generalize X0.1 = xa at *
  go_enter Tryz.func66, Tryz.ntmps66
  go_upto_region 2 with fail
  generalize (w.alloc (.cells #[.slice ao l.length cap, .slice ro (relsL l).length rc, .map (some b)] tLay)).alloc (.cells (reC xa.1 xa.2 r.name (.slice vo r.allow.length vc) r.expr.kind r.expr.ta r.expr.tb (.slice no r.expr.kids.length nc) ev) tRe) = X at *
  obtain ⟨k0, k1, k2, k3, k4, k5, k6, k7, k8⟩ := box9 H0.out.2.2.1
  go_wp2_with fail
  refine HC5.out.mono ?_
  rintro e x5 ⟨rv, rfl, hrow, hx⟩
  generalize hrl0 : refs r.expr false = rl at *
  have HRL := Lib.hid hrl0
  clear hrl0
  obtain ⟨ra, rcp, rfl⟩ := own_slice (show x5.ownsRow X.heap.size tRf 3 rv _ _ from hrow)
  have hrl : rl.length ≤ 9223372036854775807 := by omega
  have hsx := H0.out.2.2.2
  have H5 := Lib.hid (show Below w.heap.size w x5 ∧ x5.heap[w.heap.size]? = _ ∧ x5.heap[w.heap.size + 1]? = _ ∧ RefsAt X.heap.size x5 _ rl ∧ w.heap.size + 2 ≤ x5.heap.size from ⟨H0.out.1.trans (hx.mono H0.out.1.size), (hx.block _ (by omega)).trans H0.out.2.1, (hx.block _ (by omega)).trans H0.out.2.2.1, hrow, by have := hx.size; omega⟩)
  clear hx HC5 hrow hsx H0 k0 k1 k2 k3 k4 k5 k6 k7 k8
  go_wp2_with fail
  go_loopw [5, 14] (fun fv i wr => ∃ j : Nat, j ≤ rl.length ∧ i = .int .i64 j ∧ Hid (StpRow x5.heap.size wr fv (refsSteps (relsL l) xa.1 (rl.take j)) ∧ Below x5.heap.size x5 wr)) (fun _ i _ => rl.length - (intOf i).toNat)
  case atStart => exact ⟨0, by omega, rfl, Lib.hid ⟨World.ownsRow_nil _ _ _ _, Below.refl _ _⟩⟩
  case round =>
    obtain ⟨j, hj, rfl, HJ⟩ := hrel
    obtain ⟨oo, oc, rfl⟩ := own_slice HJ.out.1
    by_cases hlt : j < rl.length
    · obtain ⟨g, q, hix, -, hg, c0, c1, c2⟩ := rf_at (show RefsAt X.heap.size wr _ rl from own_below H5.out.2.2.2.1 HJ.out.2) hlt
      have htk := refsSteps_take (relsL l) xa.1 hlt
      have hsh := HPP.out.2 rl[j] (List.getElem_mem hlt)
      have hpl := HPP.out.1 rl[j] (List.getElem_mem hlt)
      have hacc := refsSteps_len (relsL l) xa.1 1000 (rl.take j) fun x _ => ledTo_len HA.out.2.2.2
      rw [List.length_take] at hacc
      generalize rl[j] = x at *
      have al := Tr.fresh_one wr (.cells #[.string x.via, .string x.rel, .bool x.odd] tRf)
      have hkR := heap_alloc_new wr (.cells #[.string x.via, .string x.rel, .bool x.odd] tRf)
      have hb2 := HJ.out.2.trans (al.mono HJ.out.2.size)
      have h0' := (hb2.block _ (by have := H5.out; omega)).trans H5.out.2.1
      have h1' := (hb2.block _ (by have := H5.out; omega)).trans H5.out.2.2.1
      obtain ⟨b0, b1, b2⟩ := box3 h0'
      obtain ⟨k0, k1, k2, k3, k4, k5, k6, k7, k8⟩ := box9 h1'
      obtain ⟨a0, a1, a2⟩ := box3 hkR
      have HB := Lib.hid (show Below w.heap.size w (wr.alloc (.cells #[.string x.via, .string x.rel, .bool x.odd] tRf)) ∧ Below x5.heap.size x5 (wr.alloc (.cells #[.string x.via, .string x.rel, .bool x.odd] tRf)) ∧ (wr.alloc (.cells #[.string x.via, .string x.rel, .bool x.odd] tRf)).heap[wr.heap.size]? = _ ∧ StpRow x5.heap.size (wr.alloc (.cells #[.string x.via, .string x.rel, .bool x.odd] tRf)) _ _ from ⟨H5.out.1.trans (hb2.mono H5.out.1.size), hb2, hkR, own_below HJ.out.1 al⟩)
      have HC := Lib.hid (ledTo_any (cap := cap) HA.out.1 _ (HA.out.2.1.below HB.out.1) xa.1 x HA.out.2.2.1.1 hsh.1 hpl HA.out.2.2.2)
      have hled := ledTo_len (L := relsL l) (ty := xa.1) (x := x) HA.out.2.2.2
      have HT := Lib.hid (And.intro htk (And.intro hsh (And.intro hled hacc)))
      have hwx := HJ.out.2.size
      have HWX := Lib.hid hwx
      clear hg al hkR hb2 h0' h1' htk hsh hpl hled hacc HJ hwx
      go_wp2_with fail
      refine HC.out.mono ?_
      rintro e y ⟨tv, rfl, hrow, hy⟩
      obtain ⟨ta, tc, rfl⟩ := own_slice (show y.ownsRow _ 9 1 tv _ _ from hrow)
      have hbl := (Array.getElem?_eq_some_iff.1 HB.out.2.2.1).1
      have HY := Lib.hid (show Below x5.heap.size x5 y ∧ y.heap[wr.heap.size]? = _ ∧ StpRow x5.heap.size y _ _ ∧ StrRow _ y _ _ ∧ wr.heap.size < y.heap.size from ⟨HB.out.2.1.trans (hy.mono HB.out.2.1.size), (hy.block _ hbl).trans HB.out.2.2.1, own_below HB.out.2.2.2 hy, hrow, by have := hy.size; omega⟩)
      clear hy hrow HC hbl b0 b1 b2 k0 k1 k2 k3 k4 k5 k6 k7 k8 a0 a1 a2 c0 c1 c2
      have htsz : (ledTo (relsL l) xa.1 x).length ≤ 9223372036854775807 := by have := HT.out.2.2.1; omega
      have HLED := Lib.hid (ledTo_short (L := relsL l) (x := x) HA.out.2.2.1.1 fun y hy a ha => ((HA.out.1.mem hy).2.2.2.2.1 a ha).1)
      have HRS := Lib.hid (show refSteps (relsL l) xa.1 x = (ledTo (relsL l) xa.1 x).map fun t => (spot (relsL l) (t, x.rel), x.odd) from rfl)
      generalize ledTo (relsL l) xa.1 x = ts at *
      generalize hLL : refsSteps (relsL l) xa.1 (rl.take j) = LL at *
      generalize wr.heap.size = bR at *
      go_wp2_with fail
      have hts0 := HY.out.2.2.2.1
      go_loopw [5, 25] (fun fv i wr => ∃ k : Nat, k ≤ ts.length ∧ i = .int .i64 k ∧ Hid (StpRow x5.heap.size wr fv (LL ++ (ts.take k).map fun t => (spot (relsL l) (t, x.rel), x.odd)) ∧ Below x5.heap.size x5 wr ∧ wr.heap[bR]? = some (.cells #[.string x.via, .string x.rel, .bool x.odd] tRf (0, 0)) ∧ StrRow 0 wr (.slice ta ts.length tc) ts)) (fun _ i _ => ts.length - (intOf i).toNat)
      case atStart => exact ⟨0, by omega, rfl, Lib.hid ⟨by simpa using HY.out.2.2.1, HY.out.1, HY.out.2.1, World.ownsRow.mono hts0 (Nat.zero_le _)⟩⟩
      case round =>
        obtain ⟨k, hk, rfl, HK⟩ := hrel
        obtain ⟨oo2, oc2, rfl⟩ := own_slice HK.out.1
        by_cases hkt : k < ts.length
        · obtain ⟨g2, hix2, -, ⟨cur2, hg2⟩, c0⟩ := str_at' HK.out.2.2.2 hkt
          have hapart := own_other HK.out.1 hg2 string_step
          have hapart2 := own_other HK.out.1 HK.out.2.2.1 ref_step
          have hapart3 := own_apart HK.out.1 HK.out.2.2.2 string_step
          have hrowlow := fun k hk => (World.ownsRow.lt HK.out.1 k hk).1
          have htk2 := map_take (fun t => (spot (relsL l) (t, x.rel), x.odd)) hkt
          have htsm := HLED.out ts[k] (List.getElem_mem hkt)
          have hlen2 : (LL ++ (ts.take k).map fun t => (spot (relsL l) (t, x.rel), x.odd)).length ≤ 100000 := by
            have h1 := HT.out.2.2.2
            have h2 := HT.out.2.2.1
            rw [List.length_append, List.length_map, List.length_take]
            omega
          have hbx := HK.out.2.1
          have hx5 := hbx.size
          generalize ts[k] = t at *
          generalize hLK : LL ++ (ts.take k).map (fun t => (spot (relsL l) (t, x.rel), x.odd)) = LK at *
          have HX := Lib.hid (show ∀ z, Turns (fun g => (Value.slice oo2 LK.length oc2).ownBlock = some g) wr.drew z → z.cell? ⟨w.heap.size, 2, none⟩ = some (.map (some b)) ∧ z.cell? ⟨g2, k, none⟩ = some (.string t) ∧ (z.cell? ⟨bR, 1, none⟩ = some (.string x.rel) ∧ z.cell? ⟨bR, 2, none⟩ = some (.bool x.odd)) ∧
              (Instr.lookup 77 (.map (some b)) (.agg #[.string t, .string x.rel]) false).run Tryz.prog z = .ok (.int .i64 (spot (relsL l) (t, x.rel) : Int)) z from fun z hz => by
            have htw := Turns.after_below (F := fun g => (Value.slice oo2 LK.length oc2).ownBlock = some g) ((Below.refl wr.heap.size wr).drew) hz
            have hb5 : Below x5.heap.size x5 z := hbx.trans (htw.below hx5 hrowlow)
            exact ⟨(box3 ((hb5.block _ (by have := H5.out; omega)).trans H5.out.2.1)).2.2, (htw.cell (p := ⟨g2, k, none⟩) (Array.getElem?_eq_some_iff.1 hg2).1 hapart).trans c0, (box3 (htw.heap HK.out.2.2.1 hapart2)).2,
              (HA.out.2.1.below (H5.out.1.trans (hb5.mono H5.out.1.size))).find htsm (Nat.le_trans HT.out.2.1.2 (show 16 ≤ maxLen by decide))⟩)
          have HTK := Lib.hid (And.intro htk2 (And.intro hapart2 (And.intro hapart3 hrowlow)))
          clear hg2 htk2 htsm hapart hapart2 hapart3 hrowlow hbx
          generalize spot (relsL l) (t, x.rel) = sp at *
          go_wp2_with fail
          clear c0
          refine Order.region_begin (S := Turns (fun g => (Value.slice oo2 LK.length oc2).ownBlock = some g) wr.drew) (by kernel_rfl) ?_
          refine Order.reads_any (idx := [0, 1, 2, 3, 4, 5, 6, 7, 8, 9, 10]) (by kernel_rfl) (Turns.refl _ _) (fun _ _ _ _ _ h => Order.noPanic_put h) 3 _ _ (by decide +kernel) ?_
          simp only [Order.pick, List.getElem?_toArray, List.getElem?_cons_zero, List.getElem?_cons_succ]
          repeat (first
            | (refine Order.reads_off (by rfl) ?_
               simp only [Act.put, List.setIfInBounds_toArray, List.set_cons_zero, List.set_cons_succ])
            | (apply Order.reads_on
               · rfl
               · intro x hx
                 first
                   | (go_simp; rfl)
                   | (obtain ⟨i1, i2, ⟨i3, i4⟩, i5⟩ := HX.out x hx
                      go_simp; rfl)
               simp only [Act.put, List.setIfInBounds_toArray, List.set_cons_zero, List.set_cons_succ]))
          refine Order.reads_end ?_
          have al0 := Tr.fresh_one wr (.cells #[.int .i64 (sp : Int), .bool x.odd] tStp)
          have HAL := Lib.hid (show Turns (fun g => (Value.slice oo2 LK.length oc2).ownBlock = some g) wr.drew (wr.alloc (.cells #[.int .i64 (sp : Int), .bool x.odd] tStp)).drew ∧ Below wr.heap.size wr (wr.alloc (.cells #[.int .i64 (sp : Int), .bool x.odd] tStp)).drew ∧ StpRow x5.heap.size (wr.alloc (.cells #[.int .i64 (sp : Int), .bool x.odd] tStp)).drew (.slice oo2 LK.length oc2) LK ∧
              (∀ j u, ([.int .i64 (sp : Int), .bool x.odd] : List Value)[j]? = some u → (wr.alloc (.cells #[.int .i64 (sp : Int), .bool x.odd] tStp)).drew.cell? ((⟨wr.heap.size, 0, none⟩ : Addr).add j) = some u) ∧ x5.heap.size ≤ (wr.alloc (.cells #[.int .i64 (sp : Int), .bool x.odd] tStp)).drew.heap.size from
            ⟨⟨rfl, rfl, rfl, al0.size, fun k hk _ => al0.block k hk⟩, al0.trans (Below.refl _ _).drew, own_below (own_below HK.out.1 al0) (Below.refl _ _).drew, new_cells wr tStp [.int .i64 (sp : Int), .bool x.odd] rfl, Nat.le_trans hx5 al0.size⟩)
          clear al0
          apply Order.acts_any (R := (Turns (fun g => (Value.slice oo2 LK.length oc2).ownBlock = some g))) (fun h k => h.trans k fun _ _ h => h) (i := 11)
          · rfl
          · decide +kernel
          · rfl
          unfold Oper.wp
          go_simp
          refine ⟨HAL.out.1, ?_⟩
          generalize (wr.alloc (.cells #[.int .i64 (sp : Int), .bool x.odd] tStp)).drew = W4 at *
          obtain ⟨ti, tz, tb, TE, hT⟩ := stps_elem
          apply Order.acts_any (R := (Turns (fun g => (Value.slice oo2 LK.length oc2).ownBlock = some g))) (fun h k => h.trans k fun _ _ h => h) (i := 12)
          · rfl
          · decide +kernel
          · rfl
          simp only [List.getElem_toArray, List.getElem_cons_succ, List.getElem_cons_zero]
          refine wp_rows TE (.tmp 29) (.tmp 40) rfl (by rfl) (by rfl) HAL.out.2.2.1 HAL.out.2.2.2.2 (m := 1) rfl HAL.out.2.2.2.1 (by intro u' hu'; simp at hu'; rcases hu' with rfl | rfl <;> rfl) (by omega) (Nat.le_trans (Nat.mul_le_mul_left _ hT) (by omega)) ?_
          intro v5 W5 r5 g5 n5
          have ht5 : Turns (fun g => (Value.slice oo2 LK.length oc2).ownBlock = some g) W4 W5 := Turns.of_grown g5 fun k hk => hk
          refine ⟨ht5, ?_⟩
          simp only [Act.put, List.setIfInBounds_toArray, List.set_cons_zero, List.set_cons_succ]
          have htw : Turns (fun g => (Value.slice oo2 LK.length oc2).ownBlock = some g) wr W5 := Turns.after_below HAL.out.2.1 ht5
          have HW5 := Lib.hid (show _ ∧ Below x5.heap.size x5 W5 ∧ W5.heap[bR]? = some (.cells #[.string x.via, .string x.rel, .bool x.odd] tRf (0, 0)) ∧ StrRow 0 W5 (.slice ta ts.length tc) ts from
            ⟨r5, HK.out.2.1.trans (htw.below hx5 HTK.out.2.2.2), htw.heap HK.out.2.2.1 HTK.out.2.1, own_turn HK.out.2.2.2 htw HTK.out.2.2.1⟩)
          clear r5 g5 n5 ht5 htw HAL HK TE hT
          refine Order.reads_any (idx := [13]) (by kernel_rfl) (Turns.refl _ _) (fun _ _ _ _ _ h => Order.noPanic_put h) 0 _ _ (by decide +kernel) ?_
          simp only [Order.pick, List.getElem?_toArray, List.getElem?_cons_zero, List.getElem?_cons_succ]
          repeat (first
            | (refine Order.reads_off (by rfl) ?_
               simp only [Act.put, List.setIfInBounds_toArray, List.set_cons_zero, List.set_cons_succ])
            | (apply Order.reads_on
               · rfl
               · intro x hx
                 first
                   | (go_simp; rfl)
                   | (fail
                      go_simp; rfl)
               simp only [Act.put]))
          refine Order.reads_end ?_
          refine wpAnyH_done (by decide +kernel) ?_ _
          refine NoPanic.normal ?_
          go_wp2_with fail
          go_roundw
          case rel =>
            refine ⟨k + 1, by omega, by go_num, Lib.hid ⟨?_, HW5.out.2⟩⟩
            rw [HTK.out.1, ← List.append_assoc, hLK]
            show World.ownsRow _ _ _ _ _ _ _
            rw [List.length_append, cellsP_append]
            exact HW5.out.1
          case measure => simp [intOf]; omega
        · have hk' : k = ts.length := by omega
          subst hk'
          have hr := HK.out.1
          rw [List.take_length] at hr
          have HR := Lib.hid (And.intro hr HK.out.2.1)
          clear hr HK
          go_wp2_with fail
          go_roundw
          case rel =>
            refine ⟨j + 1, by omega, by go_num, Lib.hid ⟨?_, HR.out.2⟩⟩
            rw [HT.out.1, HRS.out, List.take_length]
            exact HR.out.1
          case measure => simp [intOf]; omega
    · have hj' : j = rl.length := by omega
      subst hj'
      rw [List.take_length] at HJ ⊢
      have hr := HJ.out.1
      have HR := Lib.hid (And.intro hr (H5.out.1.trans (HJ.out.2.mono H5.out.1.size)))
      clear hr HJ
      go_wp2_with fail
      go_ret
      refine ⟨_, rfl, ?_, HR.out.2⟩
      rw [HRL.out]
      exact World.ownsRow.mono HR.out.1 H5.out.1.size
end
end Ly
end Go.Proofs.YtopncohhagebbaaGreatDoor

namespace Go.Proofs.YtopncohhagebbaaGreatDoor
open Go.RowKit
namespace Ly
open Tr (Nd IsExpr node4 none0 size good errOf refs direct RowAt own_open own_slice own_below own_turn IsElem Rf append_rows append_none)
open Gr (Al Rl Ty IsAl IsRl IsTy IsCf Lies cellsV al_at ty_at new_cells alV box1 box2)
open Cn (box3)
open Knot (Turns NewRow)
open Lt (It Re relsL relsT place Stp stepsOf thisSteps refsSteps Web webL Fine)

theorem mk_row {t e : TypeId} {i : TypeInfo} {z : Value} {sz by' : Nat} (T : IsElem Tryz.prog t e i z sz by') (hb : by' ≤ 200) (n : Nat) (hn : n ≤ 100000) (W : World) :
    (Instr.makeSlice t (.int .i64 (n : Int)) (.int .i64 (n : Int))).run Tryz.prog W = .ok (.slice (some ⟨W.heap.size, 0, none⟩) n n) (W.alloc (.cells (madeCells z.cells (n * sz)) e)) := by
  have h := run_make (P := Tryz.prog) W t e i z T.under T.info T.zero .i64 .i64 (n : Int) (n : Int) (by omega) (by omega) (by
    rw [T.bytes]
    have h1 : by' * n ≤ 200 * n := Nat.mul_le_mul_right _ hb
    have h2 : ((by' * n : Nat) : Int) ≤ ((200 * n : Nat) : Int) := by omega
    rw [Int.natCast_mul] at h2
    omega) (by omega)
  rw [T.size] at h
  simpa using h
theorem made_at (z : Value) (n k : Nat) (hk : k < n) : (madeCells #[z] n)[k]? = some z := by
  have h1 : (madeCells #[z] n).size = n := size_madeCells _ _
  rw [Array.getElem?_eq_getElem (by omega)]
  simp [madeCells, Nat.mod_one]
abbrev tWeb : TypeId := 85
abbrev tRow : TypeId := 121
set_option maxRecDepth 100000 in
theorem web_elem : ∃ i b, IsElem Tryz.prog tWeb tRow i (.slice none 0 0) 1 b ∧ b ≤ 100 := by
  refine ⟨_, _, ⟨by kernel_rfl, rfl, by kernel_rfl, by kernel_rfl, rfl, by kernel_rfl, by omega⟩, ?_⟩
  exact of_decide_eq_true (by kernel_rfl)
theorem elemWb : Tryz.prog.underlying tWeb = some (.slice (Tryz.prog.elem tWeb)) := by kernel_rfl
theorem sizeWb : ∀ w, (sizeOf (Tryz.prog.elem tWeb)).run Tryz.prog w = .ok 1 w := fun w => by kernel_rfl
theorem stps_join {w : World} (ty : TypeId) {B C : Nat} {v u : Value} {la lb : List Stp} (h1 : StpRow B w v la) (h2 : StpRow C w u lb) (hB : B ≤ w.heap.size) (hz : la.length + lb.length ≤ 100000) :
    ∃ v' y, (Builtin.append_ #[tRow, tRow] ty #[v, u]).run Tryz.prog w = .ok v' y ∧ StpRow B y v' (la ++ lb) ∧ Below B w y := by
  obtain ⟨ti, tz, tb', T, hT⟩ := stps_elem
  have h1' : w.ownsRow B tStp 2 v la.length (cellsP la) := h1
  rcases h2.2 with ⟨rfl, h0⟩ | ⟨g, cap, cur, rfl, hbg, hg, hnc, hcm, hcs, htake⟩
  · have hnil : lb = [] := List.eq_nil_of_length_eq_zero h0
    subst hnil
    refine ⟨v, w, append_none T ty h1' (by omega), ?_, Below.refl _ _⟩
    rw [List.append_nil]
    exact h1
  · have h2' : w.ownsRow C tStp 2 (.slice (some ⟨g, 0, none⟩) lb.length cap) lb.length (cellsP lb) := h2
    obtain ⟨v', y, hr, ho, hgr, -⟩ := append_rows T ty h1' hB (cellsP_len lb) (h2'.cells (g := g) rfl) (fun u hu => by
      obtain ⟨s, -, hs⟩ := List.mem_flatMap.1 hu
      simp at hs
      rcases hs with rfl | rfl <;> rfl) (by omega) (Nat.le_trans (Nat.mul_le_mul_left _ hT) (by omega)) (c := cap)
    refine ⟨v', y, hr, ?_, (Below.refl _ _).grown hgr hB fun k hk => (World.ownsRow.lt h1' k hk).1⟩
    rw [StpRow, List.length_append, cellsP_append]
    exact ho
theorem wp_join {w : World} {o : Oper} {a : Act} {K : Act → World → Prop} {Q : Exit → Act → World → Prop} (s x : Operand) (ho : o.op = .call { callee := .builtin .append, args := #[s, x], argTypes := #[tRow, tRow] })
    {B C : Nat} {v u : Value} {la lb : List Stp} (hs : a.eval s = v) (hx : a.eval x = u) (h1 : StpRow B w v la) (h2 : StpRow C w u lb) (hB : B ≤ w.heap.size) (hz : la.length + lb.length ≤ 100000)
    (h : ∀ v' y, StpRow B y v' (la ++ lb) → Below B w y → K (a.put o.dst v') y) : o.wp Tryz.prog a w K Q := by
  obtain ⟨v', y, hr, h3, h4⟩ := stps_join o.type h1 h2 hB hz
  unfold Oper.wp execOp
  simp only [ho, resolve, invoke, builtin, Sem.run_bind, Sem.run_pure, Result.andThen_ok, List.map_toArray, List.map_cons, List.map_nil, hs, hx, hr]
  exact h v' y h3 h4
def WebAt (x : World) (g : Nat) (W : Web) : Prop := ∃ cur, x.heap[g]? = some (.cells cur tRow (0, 0)) ∧ ∀ k (h : k < W.length), ∃ v, cur[k]? = some v ∧ StpRow (g + 1) x v W[k]
theorem WebAt.below {x y : World} {g : Nat} {W : Web} (h : WebAt x g W) (hb : Below x.heap.size x y) : WebAt y g W := by
  obtain ⟨cur, h1, h2⟩ := h
  refine ⟨cur, (hb.block g (Array.getElem?_eq_some_iff.1 h1).1).trans h1, fun k hk => ?_⟩
  obtain ⟨v, h3, h4⟩ := h2 k hk
  exact ⟨v, h3, own_below h4 hb⟩
theorem WebAt.row {x : World} {g n : Nat} {W : Web} (h : WebAt x g W) (hn : n = W.length) {k : Nat} (hk : k < W.length) :
    ∃ so sc, (∀ Z, (Instr.indexAt tWeb (.slice (some ⟨g, 0, none⟩) n n) (.int .i64 (k : Int))).run Tryz.prog Z = .ok (.pointer (some ⟨g, k, none⟩)) Z) ∧ g < x.heap.size ∧ x.cell? ⟨g, k, none⟩ = some (.slice so W[k].length sc) ∧ StpRow (g + 1) x (.slice so W[k].length sc) W[k] := by
  obtain ⟨cur, h1, h2⟩ := h
  obtain ⟨v, h3, h4⟩ := h2 k hk
  obtain ⟨so, sc, rfl⟩ := own_slice (show x.ownsRow (g + 1) tStp 2 v _ _ from h4)
  refine ⟨so, sc, fun Z => ?_, (Array.getElem?_eq_some_iff.1 h1).1, by rw [Lib.cell_of_heap h1]; exact h3, h4⟩
  rw [run_indexAt_slice Z _ _ _ _ _ _ elemWb, if_pos ⟨by omega, by omega⟩, sizeWb]
  have e : ((k : Int)).toNat = k := by omega
  simp only [Result.andThen_ok, e, Addr.add_lit, Nat.zero_add, Nat.mul_one]
theorem stp_at {B : Nat} {x : World} {v : Value} {l : List Stp} (h : StpRow B x v l) {j : Nat} (hj : j < l.length) :
    ∃ g q, (∀ Z, (Instr.indexAt tRow v (.int .i64 (j : Int))).run Tryz.prog Z = .ok (.pointer (some ⟨g, q, none⟩)) Z) ∧ B ≤ g ∧ g < x.heap.size ∧ x.cell? ⟨g, q, none⟩ = some (.int .i64 (l[j].1 : Int)) ∧ x.cell? ⟨g, q + 1, none⟩ = some (.bool l[j].2) := by
  obtain ⟨n, hn⟩ : ∃ n, l.length = n + 1 := ⟨l.length - 1, by omega⟩
  have h' : x.ownsRow B tStp 2 v l.length (cellsP l) := h
  rw [hn] at h'
  obtain ⟨g, rc, rfl, hB, hg, -, hc⟩ := own_open h'
  obtain ⟨c0, c1⟩ := cellsP_at l hj
  refine ⟨g, j * 2, fun W => ?_, hB, hg, hc _ _ c0, hc _ _ c1⟩
  rw [run_indexAt_slice W _ _ _ _ _ _ elemSt, if_pos ⟨by omega, by omega⟩, sizeSt]
  have e : ((j : Int)).toNat = j := by omega
  simp only [Result.andThen_ok, e, Addr.add_lit, Nat.zero_add]
theorem via_place {l : List Ty} (hf : Fine l) {X : Re} (hX : X ∈ relsL l) : ∀ x ∈ refs X.2.expr false, x.via.toList.isEmpty = false → (place (relsL l) (X.1.1, x.via)).isSome = true := fun x hx hv => by
  obtain ⟨t, ht, i, hi, e, hz⟩ := hf.mem hX
  have h1 := (Lt.relP_zero hz).2.2.2
  subst e
  have h2 := h1 x hx
  unfold Lt.refP at h2
  rw [if_neg (by rw [hv]; decide)] at h2
  rw [← Lt.has_place]
  show (Lt.relC l t.name x.via).isSome = true
  cases hr : Lt.relC l t.name x.via with
  | none => rw [hr] at h2; cases h2
  | some v => rfl
theorem allow_small {l : List Ty} (hf : Fine l) : ∀ y ∈ relsL l, y.2.allow.length ≤ 1000 := fun y hy => by
  obtain ⟨t, ht, i, hi, e, hz⟩ := hf.mem hy
  have := (Lt.relP_zero hz).1
  subst e
  exact Nat.le_trans this (by decide)
section
variable {l : List Ty} {ao ro : Option Addr} {cap rc b : Nat}
set_option maxHeartbeats 8000000 in
set_option maxRecDepth 100000 in
theorem web_any (hw : Wd l) (hf : Fine l) (w : World) (h : LayAt w l ao ro rc b) :
    Calls Tryz.prog 32 #[layV ao l.length cap ro (relsL l).length rc b] w fun e y => ∃ g, e = .returned (.slice (some ⟨g, 0, none⟩) (relsL l).length (relsL l).length) ∧ w.heap.size ≤ g ∧ WebAt y g (webL (relsL l)) ∧ Below w.heap.size w y := by
  have al := Tr.fresh_one w (.cells #[.slice ao l.length cap, .slice ro (relsL l).length rc, .map (some b)] tLay)
  have hk := heap_alloc_new w (.cells #[.slice ao l.length cap, .slice ro (relsL l).length rc, .map (some b)] tLay)
  have hs1 : (w.alloc (.cells #[.slice ao l.length cap, .slice ro (relsL l).length rc, .map (some b)] tLay)).heap.size = w.heap.size + 1 := by simp
  have H0 := Lib.hid (And.intro al (And.intro hk hs1))
  have hn := hf.len
  have hbig : (relsL l).length ≤ 9223372036854775807 := by omega
  have HA := Lib.hid (And.intro hw (And.intro hf h))
  obtain ⟨ti, tb, TE, hT⟩ := web_elem
  have hmk : ∀ W : World, (Instr.makeSlice tWeb (.int .i64 ((relsL l).length : Int)) (.int .i64 ((relsL l).length : Int))).run Tryz.prog W = .ok (.slice (some ⟨W.heap.size, 0, none⟩) (relsL l).length (relsL l).length) (W.alloc (.cells (madeCells #[.slice none 0 0] (relsL l).length) tRow)) := fun W => by
    have := mk_row TE (by omega) (relsL l).length (by omega) W
    rwa [Nat.mul_one] at this
  obtain ⟨a0, a1, a2⟩ := box3 hk
  clear hw hf h al hk hs1 TE hT
  go_enter Tryz.func32, Tryz.ntmps32
  go_upto_region 1 with fail
  generalize w.alloc (.cells #[.slice ao l.length cap, .slice ro (relsL l).length rc, .map (some b)] tLay) = X at *
  have hkM := heap_alloc_new X (.cells (madeCells #[Value.slice none 0 0] (relsL l).length) tRow)
  have alM := Tr.fresh_one X (.cells (madeCells #[Value.slice none 0 0] (relsL l).length) tRow)
  obtain ⟨m0, m1, m2⟩ := box3 ((alM.block _ (by have := H0.out.2.2; omega)).trans H0.out.2.1)
  have HM := Lib.hid (And.intro hkM (And.intro alM (And.intro ((alM.block _ (by have := H0.out.2.2; omega)).trans H0.out.2.1) (show w.heap.size < X.heap.size by have := H0.out.2.2; omega))))
  clear hkM alM
  go_upto_region 2 with fail
  clear a0 a1 a2 hmk
  generalize hcr : madeCells #[Value.slice none 0 0] (relsL l).length = cur0 at *
  have hcz : cur0.size = (relsL l).length := by rw [← hcr, size_madeCells]
  have HCZ := Lib.hid hcz
  clear hcr hcz
  go_wp2_with fail
  have HM0 := Lib.hid (show X.heap.size < (X.alloc (.cells cur0 tRow)).heap.size from (Array.getElem?_eq_some_iff.1 HM.out.1).1)
  generalize X.alloc (.cells cur0 tRow) = Y at *
  have HMY := Lib.hid (show Below w.heap.size w Y ∧ w.heap.size < X.heap.size from ⟨H0.out.1.trans (HM.out.2.1.mono H0.out.1.size), HM.out.2.2.2⟩)
  generalize X.heap.size = g at *
  go_loopw [13] (fun i wr => ∃ k : Nat, k ≤ (relsL l).length ∧ i = .int .i64 k ∧ Hid (Below w.heap.size w wr ∧ wr.heap[w.heap.size]? = some (.cells #[.slice ao l.length cap, .slice ro (relsL l).length rc, .map (some b)] tLay (0, 0)) ∧
      ∃ cur, wr.heap[g]? = some (.cells cur tRow (0, 0)) ∧ cur.size = (relsL l).length ∧ ∀ i (hi : i < (relsL l).length), i < k → ∃ v, cur[i]? = some v ∧ StpRow (g + 1) wr v (stepsOf (relsL l) (relsL l)[i]))) (fun i _ => (relsL l).length - (intOf i).toNat)
  case atStart => exact ⟨0, by omega, rfl, Lib.hid ⟨HMY.out.1, HM.out.2.2.1, cur0, HM.out.1, HCZ.out, fun i hi h => absurd h (Nat.not_lt_zero _)⟩⟩
  case round =>
    obtain ⟨k, hk, rfl, HK⟩ := hrel
    obtain ⟨hbw, hkl, cur, hkg, hcs, hrows⟩ := HK.out
    have HK2 := Lib.hid (And.intro hbw (And.intro hkl (And.intro hkg (And.intro hcs hrows))))
    clear HK hbw hkl hkg hcs hrows
    by_cases hlt : k < (relsL l).length
    · obtain ⟨rvs, hrels⟩ := HA.out.2.2.rels
      obtain ⟨g2, q2, vo, vc, no, nc, ev, us, hix, hg2, ⟨c0, c1, c2, c3, c4, c5, c6, c7, c8⟩, hla, hex⟩ := re_at hrels rc hlt
      obtain ⟨et, eu, rfl⟩ := hex.iface
      have hmem := List.getElem_mem hlt
      have hC1 := fun z (hz : Below w.heap.size w z) => stepsOfThis_any (cap := cap) HA.out.1 z (HA.out.2.2.below hz) _ hmem (allow_small HA.out.2.1 _ hmem) vo no vc nc (.iface et eu) us (hla.on hz fun _ _ h => h) (hex.below hz)
      have hC2 := fun z (hz : Below w.heap.size w z) => stepsOfRefs_any (cap := cap) HA.out.1 z (HA.out.2.2.below hz) _ hmem (via_place HA.out.2.1 hmem) (allow_small HA.out.2.1) vo no vc nc (.iface et eu) (hex.below hz)
      have hs1 := Nat.le_trans (thisUpto_len (relsL l) (relsL l)[k].2 (j := 2) (by omega)) (Nat.mul_le_mul_left 2 (allow_small HA.out.2.1 _ hmem))
      have hs2 := refsSteps_len (relsL l) (relsL l)[k].1.1 1000 (refs (relsL l)[k].2.expr false) fun x _ => ledTo_len (allow_small HA.out.2.1)
      have hs3 := Nat.le_trans (Tr.refs_len (relsL l)[k].2.expr false) (HA.out.1.mem hmem).2.2.2.2.2.2
      rw [thisUpto_all] at hs1
      have hbw := HK2.out.1
      replace c0 := (hbw.cell (p := ⟨g2, q2, none⟩) hg2).trans c0
      replace c1 := (hbw.cell (p := ⟨g2, q2 + 1, none⟩) hg2).trans c1
      replace c2 := (hbw.cell (p := ⟨g2, q2 + 2, none⟩) hg2).trans c2
      replace c3 := (hbw.cell (p := ⟨g2, q2 + 3, none⟩) hg2).trans c3
      replace c4 := (hbw.cell (p := ⟨g2, q2 + 4, none⟩) hg2).trans c4
      replace c5 := (hbw.cell (p := ⟨g2, q2 + 5, none⟩) hg2).trans c5
      replace c6 := (hbw.cell (p := ⟨g2, q2 + 6, none⟩) hg2).trans c6
      replace c7 := (hbw.cell (p := ⟨g2, q2 + 7, none⟩) hg2).trans c7
      replace c8 := (hbw.cell (p := ⟨g2, q2 + 8, none⟩) hg2).trans c8
      have hso : stepsOf (relsL l) (relsL l)[k] = thisSteps (relsL l) (relsL l)[k].2 ++ refsSteps (relsL l) (relsL l)[k].1.1 (refs (relsL l)[k].2.expr false) := rfl
      have hlen2 : (thisSteps (relsL l) (relsL l)[k].2).length + (refsSteps (relsL l) (relsL l)[k].1.1 (refs (relsL l)[k].2.expr false)).length ≤ 100000 := by
        have : (refs (relsL l)[k].2.expr false).length * 1000 ≤ 24 * 1000 := Nat.mul_le_mul_right _ hs3
        omega
      generalize hrr : (relsL l)[k] = rr at *
      generalize thisSteps (relsL l) rr.2 = S1 at *
      generalize refsSteps (relsL l) rr.1.1 (refs rr.2.expr false) = S2 at *
      have hkB := heap_alloc_new wr (.cells (reC rr.1.1 rr.1.2 rr.2.name (.slice vo rr.2.allow.length vc) rr.2.expr.kind rr.2.expr.ta rr.2.expr.tb (.slice no rr.2.expr.kids.length nc) (.iface et eu)) tRe)
      have alB := Tr.fresh_one wr (.cells (reC rr.1.1 rr.1.2 rr.2.name (.slice vo rr.2.allow.length vc) rr.2.expr.kind rr.2.expr.ta rr.2.expr.tb (.slice no rr.2.expr.kids.length nc) (.iface et eu)) tRe)
      have hgw := (Array.getElem?_eq_some_iff.1 HK2.out.2.2.1).1
      have hkw := (Array.getElem?_eq_some_iff.1 HK2.out.2.1).1
      have HP := Lib.hid (show Below wr.heap.size wr (wr.alloc (.cells (reC rr.1.1 rr.1.2 rr.2.name (.slice vo rr.2.allow.length vc) rr.2.expr.kind rr.2.expr.ta rr.2.expr.tb (.slice no rr.2.expr.kids.length nc) (.iface et eu)) tRe)) ∧ _ ∧ g < wr.heap.size ∧ wr.heap.size < (wr.alloc (.cells (reC rr.1.1 rr.1.2 rr.2.name (.slice vo rr.2.allow.length vc) rr.2.expr.kind rr.2.expr.ta rr.2.expr.tb (.slice no rr.2.expr.kids.length nc) (.iface et eu)) tRe)).heap.size from ⟨alB, hkB, hgw, (Array.getElem?_eq_some_iff.1 hkB).1⟩)
      have HC := Lib.hid (And.intro hC1 (And.intro hC2 (And.intro hso hlen2)))
      have hkk : k < (relsL l).length := hlt
      clear hrels hla hex hC1 hC2 hs1 hs2 hs3 hso hlen2 hg2 hkB alB hmem hgw hkw hbw
      go_upto_region 5 with fail
      clear c0 c1 c2 c3 c4 c5 c6 c7 c8
      generalize wr.alloc (.cells (reC rr.1.1 rr.1.2 rr.2.name (.slice vo rr.2.allow.length vc) rr.2.expr.kind rr.2.expr.ta rr.2.expr.tb (.slice no rr.2.expr.kids.length nc) (.iface et eu)) tRe) = P at *
      generalize hbR : wr.heap.size = bR at *
      obtain ⟨pS, hpS⟩ : ∃ n, n = P.heap.size := ⟨_, rfl⟩
      have HPS := Lib.hid hpS
      have HX := Lib.hid (show ∀ x, Turns (fun i => i = g ∨ pS ≤ i) P.drew x → Below w.heap.size w x ∧ (x.cell? ⟨w.heap.size, 0, none⟩ = some (.slice ao l.length cap) ∧ x.cell? ⟨w.heap.size, 1, none⟩ = some (.slice ro (relsL l).length rc) ∧ x.cell? ⟨w.heap.size, 2, none⟩ = some (.map (some b))) ∧
          (x.cell? ⟨bR, 0, none⟩ = some (.string rr.1.1) ∧ x.cell? ⟨bR, 1, none⟩ = some (.string rr.1.2) ∧ x.cell? ⟨bR, 2, none⟩ = some (.string rr.2.name) ∧ x.cell? ⟨bR, 3, none⟩ = some (.slice vo rr.2.allow.length vc) ∧ x.cell? ⟨bR, 4, none⟩ = some (.int .i64 rr.2.expr.kind) ∧
            x.cell? ⟨bR, 5, none⟩ = some (.string rr.2.expr.ta) ∧ x.cell? ⟨bR, 6, none⟩ = some (.string rr.2.expr.tb) ∧ x.cell? ⟨bR, 7, none⟩ = some (.slice no rr.2.expr.kids.length nc) ∧ x.cell? ⟨bR, 8, none⟩ = some (.iface et eu)) from fun x hx => by
        have ht : Turns (fun i => i = g ∨ pS ≤ i) P x := Turns.after_below (F := fun i => i = g ∨ pS ≤ i) ((Below.refl P.heap.size P).drew) hx
        have ht2 : Turns (fun i => i = g ∨ pS ≤ i) wr x := Turns.after_below (by rw [hbR]; exact HP.out.1) ht
        have hmg := HMY.out.2
        exact ⟨HK2.out.1.trans (ht2.below (by have := HP.out; omega) fun i e => by have := HP.out; omega), box3 (ht2.heap HK2.out.2.1 (by have := HP.out; omega)), box9 (ht.heap HP.out.2.1 (by have := HP.out; omega))⟩)
      clear hpS
      have hix2 : ∀ Z, (Instr.indexAt tWeb (.slice (some ⟨g, 0, none⟩) (relsL l).length (relsL l).length) (.int .i64 (k : Int))).run Tryz.prog Z = .ok (.pointer (some ⟨g, k, none⟩)) Z := fun Z => by
        rw [run_indexAt_slice Z _ _ _ _ _ _ elemWb, if_pos ⟨by omega, by omega⟩, sizeWb]
        have e : ((k : Int)).toNat = k := by omega
        simp only [Result.andThen_ok, e, Addr.add_lit, Nat.zero_add, Nat.mul_one]
      refine Order.region_begin (S := Turns (fun i => i = g ∨ pS ≤ i) P.drew) (by kernel_rfl) ?_
      refine Order.reads_any (idx := [0, 1, 2, 3, 5, 6]) (by kernel_rfl) (Turns.refl _ _) (fun _ _ _ _ _ h => Order.noPanic_put h) 5 _ _ (by decide +kernel) ?_
      simp only [Order.pick, List.getElem?_toArray, List.getElem?_cons_zero, List.getElem?_cons_succ]
      repeat (first
        | (refine Order.reads_off (by rfl) ?_
           simp only [Act.put, List.setIfInBounds_toArray, List.set_cons_zero, List.set_cons_succ])
        | (apply Order.reads_on
           · rfl
           · intro x hx
             first
               | (go_simp; rfl)
               | (obtain ⟨-, ⟨i1, i2, i3⟩, i4, i5, i6, i7, i8, i9, j1, j2, j3⟩ := HX.out x hx
                  go_simp; rfl)
           simp only [Act.put, List.setIfInBounds_toArray, List.set_cons_zero, List.set_cons_succ]))
      refine Order.reads_end ?_
      apply Order.acts_any (R := (Turns (fun i => i = g ∨ pS ≤ i))) (fun h k => h.trans k fun _ _ h => h) (i := 4)
      · rfl
      · decide +kernel
      · rfl
      unfold Oper.wp
      go_simp
      refine Calls.mono (HC.out.1 _ (HX.out _ (Turns.refl _ _)).1) ?_
      rintro e x1 ⟨v1, rfl, hv1, hx1⟩
      have ht1 : Turns (fun i => i = g ∨ pS ≤ i) P.drew x1 := Turns.of_below hx1
      refine ⟨ht1, ?_⟩
      have HV1 := Lib.hid (show StpRow P.drew.heap.size x1 v1 S1 ∧ Turns (fun i => i = g ∨ pS ≤ i) P.drew x1 ∧ P.drew.heap.size ≤ x1.heap.size ∧ Below P.drew.heap.size P.drew x1 from ⟨hv1, ht1, hx1.size, hx1⟩)
      clear hv1 hx1 ht1
      apply Order.acts_any (R := (Turns (fun i => i = g ∨ pS ≤ i))) (fun h k => h.trans k fun _ _ h => h) (i := 7)
      · rfl
      · decide +kernel
      · rfl
      unfold Oper.wp
      go_simp
      refine Calls.mono (HC.out.2.1 _ (HX.out _ HV1.out.2.1).1) ?_
      rintro e x2 ⟨v2, rfl, hv2, hx2⟩
      refine ⟨Turns.of_below hx2, ?_⟩
      have HV2 := Lib.hid (show StpRow P.drew.heap.size x2 v1 S1 ∧ StpRow x1.heap.size x2 v2 S2 ∧ Turns (fun i => i = g ∨ pS ≤ i) P.drew x2 ∧ P.drew.heap.size ≤ x2.heap.size ∧ Below P.drew.heap.size P.drew x2 from ⟨own_below HV1.out.1 hx2, hv2, HV1.out.2.1.then_below hx2, Nat.le_trans HV1.out.2.2.1 hx2.size, HV1.out.2.2.2.trans (hx2.mono HV1.out.2.2.1)⟩)
      clear hv2 hx2 HV1
      apply Order.acts_any (R := (Turns (fun i => i = g ∨ pS ≤ i))) (fun h k => h.trans k fun _ _ h => h) (i := 8)
      · rfl
      · decide +kernel
      · rfl
      simp only [List.getElem_toArray, List.getElem_cons_succ, List.getElem_cons_zero]
      refine wp_join (.tmp 22) (.tmp 25) rfl (by rfl) (by rfl) HV2.out.1 HV2.out.2.1 HV2.out.2.2.2.1 HC.out.2.2.2 ?_
      intro v3 x3 hv3 hx3
      have hpd : P.drew.heap.size = pS := HPS.out.symm
      have ht3 : Turns (fun i => i = g ∨ pS ≤ i) x2 x3 := ⟨hx3.os, hx3.tape, hx3.output, hx3.size, fun i _ hn => hx3.block i (by omega)⟩
      refine ⟨ht3, ?_⟩
      simp only [Act.put, List.setIfInBounds_toArray, List.set_cons_zero, List.set_cons_succ]
      have hb3 : Below P.heap.size P x3 := (Below.refl _ _).drew.trans (HV2.out.2.2.2.2.trans hx3)
      have hbw3 : Below wr.heap.size wr x3 := by rw [hbR]; exact HP.out.1.trans (hb3.mono (by have := HP.out; omega))
      have hg3 := (hbw3.block g (by have := HP.out; omega)).trans HK2.out.2.2.1
      have hkcur : ∃ old, HK2.out.2.2.1 = HK2.out.2.2.1 ∧ True := ⟨0, rfl, trivial⟩
      have hc3 : ∃ old, x3.cell? ⟨g, k, none⟩ = some old := by
        rw [Lib.cell_of_heap hg3]
        exact ⟨_, Array.getElem?_eq_getElem (by have := HK2.out.2.2.2.1; omega)⟩
      obtain ⟨old, hc3⟩ := hc3
      have hf3 := Lib.frozen_of_heap hg3 k
      obtain ⟨v3o, v3c, rfl⟩ := own_slice (show x3.ownsRow _ tStp 2 v3 _ _ from hv3)
      clear hkcur
      generalize (S1 ++ S2).length = n3 at *
      have HF := Lib.hid (show Below w.heap.size w (x3.setCell ⟨g, k, none⟩ (.slice v3o n3 v3c)) ∧ (x3.setCell ⟨g, k, none⟩ (.slice v3o n3 v3c)).heap[w.heap.size]? = _ ∧
          ∃ cur, (x3.setCell ⟨g, k, none⟩ (.slice v3o n3 v3c)).heap[g]? = some (.cells cur tRow (0, 0)) ∧ cur.size = (relsL l).length ∧ ∀ i (hi : i < (relsL l).length), i < k + 1 → ∃ v, cur[i]? = some v ∧ StpRow (g + 1) (x3.setCell ⟨g, k, none⟩ (.slice v3o n3 v3c)) v (stepsOf (relsL l) (relsL l)[i]) from by
        have hts : Turns (fun i => i = g) x3 (x3.setCell ⟨g, k, none⟩ (.slice v3o n3 v3c)) := (Turns.refl (fun i => i = g) x3).setCell (p := ⟨g, k, none⟩) rfl _
        have hbw := HK2.out.1.trans (hbw3.mono HK2.out.1.size)
        refine ⟨hbw.trans (hts.below hbw.size fun i e => by have := HMY.out.2; omega), hts.heap ((hbw3.block _ (Array.getElem?_eq_some_iff.1 HK2.out.2.1).1).trans HK2.out.2.1) (by have := HMY.out.2; omega), _, Lib.heap_setCell_same hg3 _, by rw [Array.size_setIfInBounds]; exact HK2.out.2.2.2.1, fun i hi hik => ?_⟩
        have hlow : ∀ {v : Value} {L : List Stp}, StpRow (g + 1) x3 v L → StpRow (g + 1) (x3.setCell ⟨g, k, none⟩ (.slice v3o n3 v3c)) v L := fun h => own_turn h hts fun j hj e => by have := (World.ownsRow.lt h j hj).1; omega
        rw [Array.getElem?_setIfInBounds]
        by_cases e : k = i
        · subst e
          rw [if_pos rfl, if_pos (by have := HK2.out.2.2.2.1; omega)]
          refine ⟨_, rfl, hlow ?_⟩
          rw [hrr, HC.out.2.2.1]
          exact World.ownsRow.mono hv3 (by have := HP.out; have e2 : P.drew.heap.size = P.heap.size := rfl; omega)
        · rw [if_neg e]
          obtain ⟨v, h1, h2⟩ := HK2.out.2.2.2.2 i hi (by omega)
          exact ⟨v, h1, hlow (own_below h2 hbw3)⟩)
      clear hv3 hx3 ht3 hb3 hbw3 hg3 HV2 HX HP HC
      refine Order.reads_any (idx := [9]) (by kernel_rfl) (Turns.refl _ _) (fun _ _ _ _ _ h => Order.noPanic_put h) 1 _ _ (by decide +kernel) ?_
      simp only [Order.pick, List.getElem?_toArray, List.getElem?_cons_zero, List.getElem?_cons_succ]
      repeat (first
        | (refine Order.reads_off (by rfl) ?_
           simp only [Act.put, List.setIfInBounds_toArray, List.set_cons_zero, List.set_cons_succ])
        | (apply Order.reads_on
           · rfl
           · intro x hx
             first
               | (go_simp; rfl)
               | (fail
                  go_simp; rfl)
           simp only [Act.put]))
      refine Order.reads_end ?_
      have HTS := Lib.hid (show Turns (fun i => i = g ∨ pS ≤ i) x3 (x3.setCell ⟨g, k, none⟩ (.slice v3o n3 v3c)) from (Turns.refl (fun i => i = g ∨ pS ≤ i) x3).setCell (p := ⟨g, k, none⟩) (.inl rfl) _)
      apply Order.acts_any (R := (Turns (fun i => i = g ∨ pS ≤ i))) (fun h k => h.trans k fun _ _ h => h) (i := 10)
      · rfl
      · decide +kernel
      · rfl
      unfold Oper.wp
      go_simp
      refine ⟨HTS.out, ?_⟩
      refine wpAnyH_done (by decide +kernel) ?_ _
      refine NoPanic.normal ?_
      clear hc3 hf3 HTS
      go_wp2_with fail
      go_roundw
      case rel => exact ⟨k + 1, by omega, by go_num, HF⟩
      case measure => simp [intOf]; omega
    · have hk' : k = (relsL l).length := by omega
      subst hk'
      have HR := Lib.hid (show Below w.heap.size w wr ∧ WebAt wr g (webL (relsL l)) from ⟨HK2.out.1, cur, HK2.out.2.2.1, fun i hi => by
        rw [webL, List.length_map] at hi
        obtain ⟨v, h1, h2⟩ := HK2.out.2.2.2.2 i hi hi
        exact ⟨v, h1, by simpa [webL] using h2⟩⟩)
      clear HK2
      go_wp2_with fail
      go_ret
      exact ⟨g, rfl, Nat.le_of_lt HMY.out.2, HR.out.2, HR.out.1⟩
end
end Ly
end Go.Proofs.YtopncohhagebbaaGreatDoor
