/-
  Layer 9's document: rel: what is wrong with a relation.
  Layer 9's document: Names: the first wrong of names and references.
  Layer 9's document: rows of items in memory; Items: all relations, in order.
  Layer 9's document: tables (rows of rows of numbers) in memory; the order in which Ways looks.
-/
import Derived.Test.YtopncohhagebbaaGreatDoorLgE
import Derived.Test.YtopncohhagebbaaGreatDoorTgS
namespace Go.Proofs.YtopncohhagebbaaGreatDoor
open Go.RowKit
namespace Lt
open Tr (Nd IsNode node4 none0 size own_open own_slice own_below IsElem walk_rows Rf refs direct rdirect_any rrefs_any RRefsAt RRefs rref_at RefCells)
open Gr (Al Rl Ty IsAl IsRl IsTy IsCf Lies ty_at rl_at al_at alV relV tyV tAl tRl tTy tCf box1 box2 box6 two_boxes)
open Cn (box3 all_at)
open Who (wp_region_class quiet_of)

theorem al_eql (a b : Al) (W : World) : (binOp .eql tAl (alV a) (alV b)).run Tryz.prog W = .ok (.bool (sameA a b)) W := by
  go_simp
  by_cases h1 : a.ty.toList = b.ty.toList <;> by_cases h2 : a.rel.toList = b.rel.toList <;> by_cases h3 : a.wild = b.wild <;> simp [h1, h2, h3, sameA, same]
theorem sameA_comm (a b : Al) : sameA a b = sameA b a := by
  rw [sameA, sameA, same_comm a.ty, same_comm a.rel, Bool.beq_comm]
theorem twice_snoc : ∀ (l : List Al) (x : Al), twice (l ++ [x]) = (twice l || l.any fun b => sameA x b)
  | [], x => by simp [twice]
  | a :: l, x => by
    rw [List.cons_append, twice, twice, twice_snoc l x, List.any_append, List.any_cons, List.any_nil, List.any_cons, sameA_comm x a]
    cases l.any (sameA a) <;> cases sameA a x <;> cases twice l <;> simp
theorem twice_more : ∀ (l m : List Al), twice l = true → twice (l ++ m) = true
  | [], _, h => by simp [twice] at h
  | a :: l, m, h => by
    rw [twice, Bool.or_eq_true] at h
    rw [List.cons_append, twice, List.any_append]
    rcases h with h | h
    · rw [h]; rfl
    · rw [twice_more l m h, Bool.or_true]
theorem twice_take {l : List Al} {i : Nat} (h : i < l.length) (hi : twice (l.take i) = false) : (((l.take i).any fun b => sameA l[i] b) = true → twice l = true) ∧ (((l.take i).any fun b => sameA l[i] b) = false → twice (l.take (i + 1)) = false) := by
  have e := twice_snoc (l.take i) l[i]
  rw [← List.take_succ_eq_append_getElem h, hi, Bool.false_or] at e
  refine ⟨fun k => ?_, fun k => by rw [e, k]⟩
  rw [← List.take_append_drop (i + 1) l]
  exact twice_more _ _ (e.trans k)
theorem relP_short {l : List Ty} {t : Ty} {i : Nat} {r : Rl} (h : ¬ 6 < r.allow.length) : relP l t i r = if (t.rels.take i).any (fun x => same x.name r.name) then 14
  else if twice r.allow then 14
  else if (direct r.expr false false || direct r.expr true false) != decide (0 < r.allow.length) then 15
  else if allowedP l r ≠ 0 then allowedP l r
  else first (refP l t.name) (refs r.expr false) := by rw [relP, if_neg h]

set_option maxHeartbeats 16000000 in
set_option maxRecDepth 100000 in
theorem rrelx_any (l : List Ty) (t : Ty) (v u : Value) (w : World) (h : IsCf w l v) (ht : IsTy w t u) (hs : Scant l) (n : Nat) (hn : n < t.rels.length) (hz : size t.rels[n].expr ≤ 300) :
    Calls Tryz.prog 114 #[v, u, .int .i64 n] w fun e y => e = .returned (.int .i64 (relP l t n t.rels[n])) ∧ Below w.heap.size w y := by
  have HC := Lib.hid (And.intro h hs)
  obtain ⟨ao, cap, us, rfl, -⟩ := h
  obtain ⟨to', tc, vs, rfl, htr⟩ := ht
  obtain ⟨q1, q2, q3, q4⟩ := two_boxes w #[.slice ao l.length cap] #[.string t.name, .slice to' t.rels.length tc] tCf tTy
  obtain ⟨g, q, so, sc, no, nc, ss, hix, hg, c0', c1', c2', c3', c4', c5', hla, hnd⟩ := rl_at htr tc hn
  have c0 := (q1.cell (p := ⟨g, q, none⟩) hg).trans c0'
  have c1 := (q1.cell (p := ⟨g, q + 1, none⟩) hg).trans c1'
  have c2 := (q1.cell (p := ⟨g, q + 2, none⟩) hg).trans c2'
  have c3 := (q1.cell (p := ⟨g, q + 3, none⟩) hg).trans c3'
  have c4 := (q1.cell (p := ⟨g, q + 4, none⟩) hg).trans c4'
  have c5 := (q1.cell (p := ⟨g, q + 5, none⟩) hg).trans c5'
  have hnb : t.rels.length ≤ 9223372036854775807 := htr.big
  have HL := Lib.hid htr
  generalize hr : t.rels[n] = r at *
  have HRq := Lib.hid hr
  have HA := Lib.hid (And.intro hla hnd)
  have HZ := Lib.hid hz
  have al := (Tr.fresh_one ((w.alloc (.cells #[.slice ao l.length cap] tCf)).alloc (.cells #[.string t.name, .slice to' t.rels.length tc] tTy)) (.cells #[.string r.name, .slice so r.allow.length sc, .int .i64 r.expr.kind, .string r.expr.ta, .string r.expr.tb, .slice no r.expr.kids.length nc] tRl))
  have hk := heap_alloc_new ((w.alloc (.cells #[.slice ao l.length cap] tCf)).alloc (.cells #[.string t.name, .slice to' t.rels.length tc] tTy)) (.cells #[.string r.name, .slice so r.allow.length sc, .int .i64 r.expr.kind, .string r.expr.ta, .string r.expr.tb, .slice no r.expr.kids.length nc] tRl)
  rw [q4] at hk
  have HX0 := Lib.hid (And.intro (q1.trans (al.mono q1.size)) (And.intro ((al.block _ (by omega)).trans q2) (And.intro ((al.block _ (by omega)).trans q3) hk)))
  have b1 := (box2 q3).2
  clear hla hnd hr al hk htr c0' c1' c2' c3' c4' c5' hg q1 q2 q3 hz
  go_enter Tryz.func114, Tryz.ntmps114
  go_upto_region 2 with fail
  generalize ((w.alloc (.cells #[.slice ao l.length cap] tCf)).alloc (.cells #[.string t.name, .slice to' t.rels.length tc] tTy)).alloc (.cells #[.string r.name, .slice so r.allow.length sc, .int .i64 r.expr.kind, .string r.expr.ta, .string r.expr.tb, .slice no r.expr.kids.length nc] tRl) = X at *
  clear c0 c1 c2 c3 c4 c5 b1 hix q4
  obtain ⟨k0, k1, k2, k3, k4, k5⟩ := box6 HX0.out.2.2.2
  by_cases h6 : 6 < r.allow.length
  · have HE := Lib.hid (show relP l t n r = 3 by rw [relP, if_pos h6])
    have e1 : (6 : Int) < (r.allow.length : Int) := by omega
    clear k0 k2 k3 k4 k5 h6
    go_wp2_with fail
    go_ret
    exact ⟨by rw [HE.out]; rfl, HX0.out.1⟩
  have HQ := Lib.hid (relP_short (l := l) (t := t) (i := n) (r := r) h6)
  have hlen : r.allow.length ≤ 6 := by omega
  clear h6
  go_wp2_with fail
  clear k0 k1 k2 k3 k4 k5
  -- the names ahead
  go_loopw [8] (fun i wr => ∃ j : Nat, j ≤ n ∧ i = .int .i64 j ∧ Hid ((t.rels.take j).any (fun x => same x.name r.name) = false) ∧ Below X.heap.size X wr) (fun i _ => n - (intOf i).toNat)
  case atStart => exact ⟨0, by omega, rfl, Lib.hid rfl, Below.refl _ _⟩
  case round =>
    obtain ⟨j, hj, rfl, hall, hb⟩ := hrel
    by_cases hlt : j < n
    · have hbw := HX0.out.1.trans (hb.mono HX0.out.1.size)
      have hlt2 : j < t.rels.length := by omega
      have b1 := (box2 ((hb.block _ (Array.getElem?_eq_some_iff.1 HX0.out.2.2.1).1).trans HX0.out.2.2.1)).2
      have k0 := (box6 ((hb.block _ (Array.getElem?_eq_some_iff.1 HX0.out.2.2.2).1).trans HX0.out.2.2.2)).1
      obtain ⟨g, q, so', sc', no', nc', ss', hix, hg, c0', -, -, -, -, -, -, -⟩ := rl_at HL.out tc hlt2
      have c0 := (hbw.cell (p := ⟨g, q, none⟩) hg).trans c0'
      have hat := any_false_take (p := fun x : Rl => same x.name r.name) hlt2 hall.out
      have hmem : same t.rels[j].name r.name = true → (t.rels.take n).any (fun x => same x.name r.name) = true := fun h => List.any_eq_true.2 ⟨t.rels[j], List.mem_take_iff_getElem.2 ⟨j, by omega, rfl⟩, h⟩
      generalize t.rels[j] = r2 at *
      have HAT := Lib.hid (And.intro hmem hat.2)
      have HB := Lib.hid (And.intro hb hbw)
      clear hat hmem hall hb hbw hg c0'
      cases hsm : same r2.name r.name with
      | true =>
        have e1 : (r2.name.toList == r.name.toList) = true := hsm
        have HE := Lib.hid (show relP l t n r = 14 by rw [HQ.out, if_pos (HAT.out.1 hsm)])
        clear hsm
        go_wp2_with fail
        go_quiet (fail)
        go_wp2_with fail
        go_ret
        exact ⟨by rw [HE.out]; rfl, below_drewN HB.out.2 _⟩
      | false =>
        have e1 : (r2.name.toList == r.name.toList) = false := hsm
        have HE := Lib.hid (HAT.out.2 hsm)
        clear hsm
        go_wp2_with fail
        go_quiet (fail)
        go_wp2_with fail
        go_roundw
        case rel => exact ⟨j + 1, by omega, by go_num, HE, below_drewN HB.out.1 _⟩
        case measure => simp [intOf]; omega
    · have hj' : n = j := by omega
      subst hj'
      have ha := hall.out
      rw [if_neg (by rw [ha]; decide)] at HQ
      have k1 := (box6 ((hb.block _ (Array.getElem?_eq_some_iff.1 HX0.out.2.2.2).1).trans HX0.out.2.2.2)).2.1
      have HB := Lib.hid hb
      clear ha hall hb
      go_wp2_with fail
      clear k1
      go_loopw [41] (fun i wr => ∃ j : Nat, j ≤ r.allow.length ∧ i = .int .i64 j ∧ Hid (twice (r.allow.take j) = false) ∧ Below X.heap.size X wr) (fun i _ => r.allow.length - (intOf i).toNat)
      case atStart => exact ⟨0, by omega, rfl, Lib.hid rfl, HB.out⟩
      case round =>
        obtain ⟨j, hj, rfl, hall, hb⟩ := hrel
        clear HB
        by_cases hlt : j < r.allow.length
        · have HB1 := Lib.hid hb
          have htw := twice_take hlt hall.out
          obtain ⟨ga, qa, hixa, hga, ca0, ca1, ca2⟩ := al_at HA.out.1 sc hlt
          generalize r.allow[j] = a at *
          have HTW := Lib.hid htw
          have HCA := Lib.hid (And.intro hga (And.intro ca0 (And.intro ca1 ca2)))
          clear hall hb htw hga ca0 ca1 ca2
          go_wp2_with fail
          go_loopw [10] (fun i wr => ∃ k : Nat, k ≤ j ∧ i = .int .i64 k ∧ Hid (((r.allow.take k).any fun b => sameA a b) = false) ∧ Below X.heap.size X wr) (fun i _ => j - (intOf i).toNat)
          case atStart => exact ⟨0, by omega, rfl, Lib.hid rfl, HB1.out⟩
          case round =>
            obtain ⟨k, hk, rfl, hall, hb⟩ := hrel
            clear HB1
            by_cases hkt : k < j
            · have hbw := HX0.out.1.trans (hb.mono HX0.out.1.size)
              have hkl : k < r.allow.length := by omega
              have k1 := (box6 ((hb.block _ (Array.getElem?_eq_some_iff.1 HX0.out.2.2.2).1).trans HX0.out.2.2.2)).2.1
              obtain ⟨gb, qb, hixb, hgb, cb0', cb1', cb2'⟩ := al_at HA.out.1 sc hkl
              have ca0 := (hbw.cell (p := ⟨ga, qa, none⟩) HCA.out.1).trans HCA.out.2.1
              have ca1 := (hbw.cell (p := ⟨ga, qa + 1, none⟩) HCA.out.1).trans HCA.out.2.2.1
              have ca2 := (hbw.cell (p := ⟨ga, qa + 2, none⟩) HCA.out.1).trans HCA.out.2.2.2
              have cb0 := (hbw.cell (p := ⟨gb, qb, none⟩) hgb).trans cb0'
              have cb1 := (hbw.cell (p := ⟨gb, qb + 1, none⟩) hgb).trans cb1'
              have cb2 := (hbw.cell (p := ⟨gb, qb + 2, none⟩) hgb).trans cb2'
              have hat := any_false_take (p := fun b => sameA a b) hkl hall.out
              have hmem : sameA a r.allow[k] = true → ((r.allow.take j).any fun b => sameA a b) = true := fun h => List.any_eq_true.2 ⟨r.allow[k], List.mem_take_iff_getElem.2 ⟨k, by omega, rfl⟩, h⟩
              generalize r.allow[k] = b at *
              have heq := al_eql a b
              have HAT := Lib.hid (And.intro hmem hat.2)
              have HB := Lib.hid (And.intro hb hbw)
              clear hat hmem hall hb hbw hgb cb0' cb1' cb2'
              cases hsm : sameA a b with
              | true =>
                rw [hsm] at heq
                have HE := Lib.hid (show relP l t n r = 14 by rw [HQ.out, if_pos (HTW.out.1 (HAT.out.1 hsm))])
                clear hsm
                go_wp2_with fail
                go_quiet (fail)
                go_wp2_with fail
                go_ret
                exact ⟨by rw [HE.out]; rfl, below_drewN HB.out.2 _⟩
              | false =>
                rw [hsm] at heq
                have HE := Lib.hid (HAT.out.2 hsm)
                clear hsm
                go_wp2_with fail
                go_quiet (fail)
                go_wp2_with fail
                go_roundw
                case rel => exact ⟨k + 1, by omega, by go_num, HE, below_drewN HB.out.1 _⟩
                case measure => simp [intOf]; omega
            · have hk' : k = j := by omega
              subst hk'
              have HE := Lib.hid (HTW.out.2 hall.out)
              have HB := Lib.hid hb
              clear hall hb
              go_wp2_with fail
              go_roundw
              case rel => exact ⟨k + 1, by omega, by go_num, HE, HB.out⟩
              case measure => simp [intOf]; omega
        · have hj' : j = r.allow.length := by omega
          subst hj'
          have ha := hall.out
          rw [List.take_length] at ha
          rw [if_neg (by rw [ha]; decide)] at HQ
          have HB := Lib.hid hb
          have HD := Lib.hid (fun x (hx : Below X.heap.size X x) want => rdirect_any (size r.expr) r.expr want false _ x (Nat.le_refl _) HZ.out (HA.out.2.below (HX0.out.1.trans (hx.mono HX0.out.1.size))))
          clear ha hall hb
          go_upto_region 18 with fail
          go_cut [73] (fun s73 wx => s73 = .bool ((direct r.expr false false || direct r.expr true false) != decide (0 < r.allow.length)) ∧ Below X.heap.size X wx)
          case first =>
            have HD0 := Lib.hid (fun x hx => HD.out x hx false)
            have HD1 := Lib.hid (fun x hx => HD.out x hx true)
            have hpos : decide ((0 : Int) < (r.allow.length : Int)) = decide (0 < r.allow.length) := by simp
            have HPOS := Lib.hid hpos
            clear hpos
            cases hd0 : direct r.expr false false with
            | true =>
              rw [hd0] at HD0
              have HH0 := Lib.hid hd0
              clear hd0 HD
              refine wp_region_class (C := fun x => Below X.heap.size X x) (by kernel_rfl) (by kernel_rfl) HB.out.drew ?_
              repeat (first
                | go_big_quiet_skip
                | (go_big_quiet_want
                   apply quiet_of
                   · intro x hx
                     obtain ⟨-, k1, k2, k3, k4, k5⟩ := box6 ((hx.block _ (Array.getElem?_eq_some_iff.1 HX0.out.2.2.2).1).trans HX0.out.2.2.2)
                     first
                       | (go_simp; rfl)
                       | (clear k1 k2 k3 k4 k5; go_simp; go_at_call 36; with_reducible refine Calls.mono (HD0.out x hx) ?_; rintro e y ⟨rfl, hy⟩; exact ⟨rfl, hx.trans (hy.mono hx.size)⟩)
                       | (clear k1 k2 k3 k4 k5; go_simp; go_at_call 36; with_reducible refine Calls.mono (HD1.out x hx) ?_; rintro e y ⟨rfl, hy⟩; exact ⟨rfl, hx.trans (hy.mono hx.size)⟩)
                   simp only [Act.put, List.setIfInBounds_toArray, List.set_cons_zero, List.set_cons_succ]
                   go_big_quiet_on))
              refine wpQuiet_nil ?_
              intro x hx
              have HX := Lib.hid hx
              clear hx
              go_wp2_with fail
              go_meet
              case rel =>
                refine ⟨?_, HX.out⟩
                rw [HH0.out]; simp
            | false =>
              rw [hd0] at HD0
              have HH0 := Lib.hid hd0
              cases hd1 : direct r.expr true false with
              | true =>
                rw [hd1] at HD1
                have HH1 := Lib.hid hd1
                clear hd0 hd1 HD
                refine wp_region_class (C := fun x => Below X.heap.size X x) (by kernel_rfl) (by kernel_rfl) HB.out.drew ?_
                repeat (first
                  | go_big_quiet_skip
                  | (go_big_quiet_want
                     apply quiet_of
                     · intro x hx
                       obtain ⟨-, k1, k2, k3, k4, k5⟩ := box6 ((hx.block _ (Array.getElem?_eq_some_iff.1 HX0.out.2.2.2).1).trans HX0.out.2.2.2)
                       first
                         | (go_simp; rfl)
                         | (clear k1 k2 k3 k4 k5; go_simp; go_at_call 36; with_reducible refine Calls.mono (HD0.out x hx) ?_; rintro e y ⟨rfl, hy⟩; exact ⟨rfl, hx.trans (hy.mono hx.size)⟩)
                         | (clear k1 k2 k3 k4 k5; go_simp; go_at_call 36; with_reducible refine Calls.mono (HD1.out x hx) ?_; rintro e y ⟨rfl, hy⟩; exact ⟨rfl, hx.trans (hy.mono hx.size)⟩)
                     simp only [Act.put, List.setIfInBounds_toArray, List.set_cons_zero, List.set_cons_succ]
                     go_big_quiet_on))
                refine wpQuiet_nil ?_
                intro x hx
                have HX := Lib.hid hx
                clear hx
                go_wp2_with fail
                go_meet
                case rel =>
                  refine ⟨?_, HX.out⟩
                  rw [HH0.out, HH1.out]; simp
              | false =>
                rw [hd1] at HD1
                have HH1 := Lib.hid hd1
                clear hd0 hd1 HD
                refine wp_region_class (C := fun x => Below X.heap.size X x) (by kernel_rfl) (by kernel_rfl) HB.out.drew ?_
                repeat (first
                  | go_big_quiet_skip
                  | (go_big_quiet_want
                     apply quiet_of
                     · intro x hx
                       obtain ⟨-, k1, k2, k3, k4, k5⟩ := box6 ((hx.block _ (Array.getElem?_eq_some_iff.1 HX0.out.2.2.2).1).trans HX0.out.2.2.2)
                       first
                         | (go_simp; rfl)
                         | (clear k1 k2 k3 k4 k5; go_simp; go_at_call 36; with_reducible refine Calls.mono (HD0.out x hx) ?_; rintro e y ⟨rfl, hy⟩; exact ⟨rfl, hx.trans (hy.mono hx.size)⟩)
                         | (clear k1 k2 k3 k4 k5; go_simp; go_at_call 36; with_reducible refine Calls.mono (HD1.out x hx) ?_; rintro e y ⟨rfl, hy⟩; exact ⟨rfl, hx.trans (hy.mono hx.size)⟩)
                     simp only [Act.put, List.setIfInBounds_toArray, List.set_cons_zero, List.set_cons_succ]
                     go_big_quiet_on))
                refine wpQuiet_nil ?_
                intro x hx
                have HX := Lib.hid hx
                clear hx
                go_wp2_with fail
                go_meet
                case rel =>
                  refine ⟨?_, HX.out⟩
                  rw [HH0.out, HH1.out]; simp
          case rest =>
            obtain ⟨rfl, hb⟩ := hcut
            have HB := Lib.hid hb
            have hk1 := (hb.block _ (Array.getElem?_eq_some_iff.1 HX0.out.2.2.2).1).trans HX0.out.2.2.2
            have hc1 := (hb.block _ (Array.getElem?_eq_some_iff.1 HX0.out.2.1).1).trans HX0.out.2.1
            have hbw := HX0.out.1.trans (hb.mono HX0.out.1.size)
            generalize hbq : ((direct r.expr false false || direct r.expr true false) != decide (0 < r.allow.length)) = bq at *
            cases bq with
            | true =>
              have HE := Lib.hid (HQ.out.trans (if_pos rfl))
              have HW := Lib.hid hbw
              clear hbq hb hk1 hc1 hbw
              go_wp2_with fail
              go_ret
              exact ⟨by rw [HE.out]; rfl, HW.out⟩
            | false =>
              have HQ2 := Lib.hid (HQ.out.trans (if_neg (by decide)))
              have HAl := Lib.hid (rallowed_any l r (.agg #[.slice ao l.length cap]) (relV r (.slice so r.allow.length sc) (.slice no r.expr.kids.length nc)) wc (HC.out.1.below hbw) ⟨so, sc, no, nc, ss, rfl, HA.out.1.on hbw fun _ _ h => h, HA.out.2.below hbw⟩)
              have HW := Lib.hid (And.intro hbw (And.intro hc1 hk1))
              have b0 := box1 hc1
              obtain ⟨k0, k1, k2, k3, k4, k5⟩ := box6 hk1
              clear hbq hb hk1 hc1 hbw HQ
              go_wp2_with fail
              refine HAl.out.mono ?_
              rintro e x1 ⟨rfl, hx⟩
              have H1 := Lib.hid (And.intro (HW.out.1.trans (hx.mono HW.out.1.size)) (And.intro ((hx.block _ (Array.getElem?_eq_some_iff.1 HW.out.2.1).1).trans HW.out.2.1) (And.intro ((hx.block _ (Array.getElem?_eq_some_iff.1 HW.out.2.2).1).trans HW.out.2.2) (HB.out.trans (hx.mono HB.out.size)))))
              clear hx HAl HW b0 k0 k1 k2 k3 k4 k5 HB
              by_cases h13 : allowedP l r = 0
              · have HQ3 := Lib.hid (HQ2.out.trans (if_neg (by simpa using h13)))
                have e1 : (allowedP l r != 0) = false := by simpa using h13
                have HRf := Lib.hid (rrefs_any (size r.expr) r.expr false _ x1 (Nat.le_refl _) HZ.out (HA.out.2.below H1.out.1))
                have hlen2 := Tr.refs_len r.expr false
                obtain ⟨-, -, k2, k3, k4, k5⟩ := box6 H1.out.2.2.1
                clear h13 HQ2
                go_wp2_with fail
                refine HRf.out.mono ?_
                rintro e x2 ⟨rv, rfl, hrow, hx⟩
                obtain ⟨ro2, rc2, rfl⟩ := own_slice hrow
                have H2 := Lib.hid (And.intro (H1.out.1.trans (hx.mono H1.out.1.size)) (And.intro ((hx.block _ (Array.getElem?_eq_some_iff.1 H1.out.2.1).1).trans H1.out.2.1) (And.intro ((hx.block w.heap.size.succ (by have := H1.out.2.2.2.size; have := (Array.getElem?_eq_some_iff.1 HX0.out.2.2.1).1; omega)).trans ((H1.out.2.2.2.block _ (Array.getElem?_eq_some_iff.1 HX0.out.2.2.1).1).trans HX0.out.2.2.1)) hrow)))
                have hz2 := HZ.out
                have hlen3 : (refs r.expr false).length ≤ 300 := by omega
                clear hx hrow HRf H1 k2 k3 k4 k5 e1 hlen2 hz2
                generalize refs r.expr false = rs at *
                go_wp2_with fail
                go_loopw [85] (fun i wr => ∃ j : Nat, j ≤ rs.length ∧ i = .int .i64 j ∧ Hid (first (refP l t.name) (rs.take j) = 0) ∧ Below x2.heap.size x2 wr) (fun i _ => rs.length - (intOf i).toNat)
                case atStart => exact ⟨0, by omega, rfl, Lib.hid rfl, Below.refl _ _⟩
                case round =>
                  obtain ⟨j, hj, rfl, hall, hb⟩ := hrel
                  by_cases hlt : j < rs.length
                  · have hbw := H2.out.1.trans (hb.mono H2.out.1.size)
                    obtain ⟨g, q, hix, hg, hc⟩ := rref_at (show RRefsAt _ wr _ rs from own_below H2.out.2.2.2 hb) hlt
                    have hat := first_take (refP l t.name) hlt hall.out
                    have hlen4 : rs.length ≤ 9223372036854775807 := by omega
                    generalize rs[j] = x at *
                    have HX := Lib.hid (show ∀ y, Below wr.heap.size wr.drew y → y.cell? ⟨w.heap.size, 0, none⟩ = some (.slice ao l.length cap) ∧ y.cell? ⟨w.heap.size + 1, 0, none⟩ = some (.string t.name) ∧ y.cell? ⟨g, q, none⟩ = some (.string x.via) ∧ y.cell? ⟨g, q + 1, none⟩ = some (.string x.rel) ∧ y.cell? ⟨g, q + 2, none⟩ = some (.bool x.odd) from fun y hy => by
                      have hy1 : Below wr.heap.size wr y := (Below.refl _ _).drew.trans hy
                      have hy2 : Below x2.heap.size x2 y := hb.trans (hy1.mono hb.size)
                      obtain ⟨d0, d1, d2⟩ := hc.on hg hy1
                      exact ⟨box1 ((hy2.block _ (Array.getElem?_eq_some_iff.1 H2.out.2.1).1).trans H2.out.2.1), (box2 ((hy2.block _ (Array.getElem?_eq_some_iff.1 H2.out.2.2.1).1).trans H2.out.2.2.1)).1, d0, d1, d2⟩)
                    have HRF := Lib.hid (fun y (hy : Below wr.heap.size wr y) => rref_any l _ y (HC.out.1.below (hbw.trans (hy.mono hbw.size))) HC.out.2 t.name x)
                    have HAT := Lib.hid hat
                    have HB := Lib.hid (And.intro hb hbw)
                    clear hc hg hat hall hb hbw
                    go_wp2_with fail
                    refine Order.region_begin (S := Below wr.heap.size wr.drew) (by kernel_rfl) ?_
                    refine Order.reads_any (idx := [0, 1, 2, 3, 4, 5, 6]) (by kernel_rfl) (Below.refl _ _) (fun _ _ _ _ _ h => Order.noPanic_put h) 2 _ _ (by decide +kernel) ?_
                    simp only [Order.pick, List.getElem?_toArray, List.getElem?_cons_zero, List.getElem?_cons_succ]
                    repeat (first
                      | (refine Order.reads_off (by rfl) ?_
                         simp only [Act.put, List.setIfInBounds_toArray, List.set_cons_zero, List.set_cons_succ])
                      | (apply Order.reads_on
                         · rfl
                         · intro x hx
                           first
                             | (go_simp; rfl)
                             | (obtain ⟨i1, i2, i3, i4, i5⟩ := HX.out x hx
                                go_simp; rfl)
                         simp only [Act.put, List.setIfInBounds_toArray, List.set_cons_zero, List.set_cons_succ]))
                    refine Order.reads_end ?_
                    apply Order.acts_any (R := (Below wr.heap.size)) (fun h k => h.trans k) (i := 7)
                    · rfl
                    · decide +kernel
                    · rfl
                    unfold Oper.wp
                    go_simp
                    refine Calls.mono (HRF.out _ (Below.refl _ _).drew) ?_
                    rintro e y ⟨rfl, hy⟩
                    refine ⟨hy, ?_⟩
                    refine Order.reads_any (idx := [8]) (by kernel_rfl) (Below.refl _ _) (fun _ _ _ _ _ h => Order.noPanic_put h) 0 _ _ (by decide +kernel) ?_
                    simp only [Order.pick, List.getElem?_toArray, List.getElem?_cons_zero, List.getElem?_cons_succ]
                    repeat (first
                      | (refine Order.reads_off (by rfl) ?_
                         simp only [Act.put, List.setIfInBounds_toArray, List.set_cons_zero, List.set_cons_succ])
                      | (apply Order.reads_on
                         · rfl
                         · intro x hx
                           first
                             | (go_simp; rfl)
                             | (fail
                                go_simp; rfl)
                         simp only [Act.put, List.setIfInBounds_toArray, List.set_cons_zero, List.set_cons_succ]))
                    refine Order.reads_end ?_
                    refine wpAnyH_done (by decide +kernel) ?_ _
                    refine NoPanic.normal ?_
                    have hy1 : Below wr.heap.size wr y := (Below.refl _ _).drew.trans hy
                    have HY := Lib.hid (And.intro (HB.out.1.trans (hy1.mono HB.out.1.size)) (HB.out.2.trans (hy1.mono HB.out.2.size)))
                    clear hy hy1 HB HX HRF
                    by_cases h0 : refP l t.name x = 0
                    · have HE := Lib.hid (HAT.out.2 h0)
                      have e1 : (refP l t.name x != 0) = false := by simpa using h0
                      clear h0 HAT
                      go_wp2_with fail
                      go_roundw
                      case rel => exact ⟨j + 1, by omega, by go_num, HE, HY.out.1⟩
                      case measure => simp [intOf]; omega
                    · have HE := Lib.hid (HQ3.out.trans (HAT.out.1 h0))
                      have e1 : (refP l t.name x != 0) = true := by simpa using h0
                      clear h0 HAT
                      go_wp2_with fail
                      go_ret
                      exact ⟨by rw [HE.out]; rfl, HY.out.2⟩
                  · have hj' : j = rs.length := by omega
                    subst hj'
                    have ha := hall.out
                    rw [List.take_length] at ha
                    have HE := Lib.hid (HQ3.out.trans ha)
                    have HY := Lib.hid (H2.out.1.trans (hb.mono H2.out.1.size))
                    clear ha hall hb
                    go_wp2_with fail
                    go_ret
                    exact ⟨by rw [HE.out]; rfl, HY.out⟩
              · have HE := Lib.hid (HQ2.out.trans (if_pos h13))
                have e1 : (allowedP l r != 0) = true := by simpa using h13
                clear h13 HQ2
                go_wp2_with fail
                go_ret
                exact ⟨by rw [HE.out]; rfl, H1.out.1⟩
end Lt
end Go.Proofs.YtopncohhagebbaaGreatDoor

namespace Go.Proofs.YtopncohhagebbaaGreatDoor
open Go.RowKit
namespace Lt
open Tr (Nd IsNode node4 none0 size)
open Gr (Al Rl Ty IsAl IsRl IsTy IsCf Lies ty_at rl_at al_at alV relV tyV tAl tRl tTy tCf box1 box2 box6 two_boxes)

abbrev three (a : ByteArray × ByteArray × Int) : Value := .tuple #[.string a.1, .string a.2.1, .int .i64 a.2.2]
theorem relsP_at {l : List Ty} {t : Ty} {k : Nat} (hk : k < t.rels.length) : relsP l t k (t.rels.drop k) = if relP l t k t.rels[k] ≠ 0 then (t.name, t.rels[k].name, relP l t k t.rels[k]) else relsP l t (k + 1) (t.rels.drop (k + 1)) := by
  rw [List.drop_eq_getElem_cons hk, relsP]
theorem typesW_at {l : List Ty} {k : Nat} (hk : k < l.length) : typesW l k (l.drop k) = if (typeP l k l[k]).2.2 ≠ 0 then typeP l k l[k] else typesW l (k + 1) (l.drop (k + 1)) := by
  rw [List.drop_eq_getElem_cons hk, typesW]
def Slim (l : List Ty) : Prop := ∀ t ∈ l, ∀ r ∈ t.rels, size r.expr ≤ 300

set_option maxHeartbeats 16000000 in
set_option maxRecDepth 100000 in
theorem rnames_any (l : List Ty) (v : Value) (w : World) (h : IsCf w l v) (hs : Scant l) (hz : Slim l) :
    Calls Tryz.prog 72 #[v] w fun e y => e = .returned (three (namesP l)) ∧ Below w.heap.size w y := by
  have HC := Lib.hid (And.intro h (And.intro hs hz))
  obtain ⟨ao, cap, us, rfl, hl⟩ := h
  have h0 := heap_alloc_new w (.cells #[.slice ao l.length cap] tCf)
  have al := Tr.fresh_one w (.cells #[.slice ao l.length cap] tCf)
  have HL := Lib.hid hl
  have H0 := Lib.hid (And.intro al h0)
  have hbig : l.length ≤ 9223372036854775807 := hl.big
  clear hl h0 al
  go_enter Tryz.func72, Tryz.ntmps72
  go_upto_region 1 with fail
  generalize w.alloc (.cells #[.slice ao l.length cap] tCf) = X at *
  have b0 := box1 H0.out.2
  by_cases h6 : 6 < l.length
  · have HE := Lib.hid (show namesP l = (none0, none0, 3) by rw [namesP, if_pos h6])
    have e1 : (6 : Int) < (l.length : Int) := by omega
    clear h6
    go_wp2_with fail
    go_ret3
    exact ⟨by rw [HE.out]; rfl, H0.out.1⟩
  have HQ := Lib.hid (show namesP l = typesW l 0 (l.drop 0) by rw [namesP, if_neg h6]; rfl)
  have hlen : l.length ≤ 6 := by omega
  clear h6
  go_wp2_with fail
  clear b0
  go_loopw [17] (fun i wr => ∃ j : Nat, j ≤ l.length ∧ i = .int .i64 j ∧ Hid (namesP l = typesW l j (l.drop j)) ∧ Below X.heap.size X wr) (fun i _ => l.length - (intOf i).toNat)
  case atStart => exact ⟨0, by omega, rfl, HQ, Below.refl _ _⟩
  case round =>
    obtain ⟨j, hj, rfl, hall, hb⟩ := hrel
    clear HQ
    by_cases hlt : j < l.length
    · have hbw := H0.out.1.trans (hb.mono H0.out.1.size)
      have b0 := box1 ((hb.block _ (Array.getElem?_eq_some_iff.1 H0.out.2).1).trans H0.out.2)
      obtain ⟨g, q, ro, rc, vs, hix, hg, c0', c1', hla⟩ := ty_at HL.out cap hlt
      have c0 := (hbw.cell (p := ⟨g, q, none⟩) hg).trans c0'
      have c1 := (hbw.cell (p := ⟨g, q + 1, none⟩) hg).trans c1'
      have hq := hall.out.trans (typesW_at hlt)
      have hmem := List.getElem_mem hlt
      generalize hlj : l[j] = t at *
      have HJ := Lib.hid (And.intro hlj (And.intro hq hmem))
      have al1 := Tr.fresh_one wr (.cells #[.string t.name, .slice ro t.rels.length rc] tTy)
      have hk1 := heap_alloc_new wr (.cells #[.string t.name, .slice ro t.rels.length rc] tTy)
      have HLT := Lib.hid hla
      have hbig2 : t.rels.length ≤ 9223372036854775807 := hla.big
      have hbx := hb.trans (al1.mono hb.size)
      have H1 := Lib.hid (And.intro hbx (And.intro hk1 (And.intro (H0.out.1.trans (hbx.mono H0.out.1.size)) ((hbx.block _ (Array.getElem?_eq_some_iff.1 H0.out.2).1).trans H0.out.2))))
      clear hla al1 hk1 hbx hb hbw hg c0' c1' hlj hq hmem hall
      go_upto_region 7 with fail
      generalize wr.alloc (.cells #[.string t.name, .slice ro t.rels.length rc] tTy) = Y at *
      generalize wr.heap.size = R1 at *
      clear c0 c1 hix b0
      obtain ⟨d0, d1⟩ := box2 H1.out.2.1
      by_cases h8 : 8 < t.rels.length
      · have ht : typeP l j t = (t.name, none0, 3) := by rw [typeP, if_pos h8]
        have HE := Lib.hid (show namesP l = (t.name, none0, 3) by rw [HJ.out.2.1, ht]; rfl)
        have e1 : (8 : Int) < (t.rels.length : Int) := by omega
        clear h8 ht
        go_wp2_with fail
        go_ret3
        exact ⟨by rw [HE.out]; rfl, H1.out.2.2.1⟩
      have HT := Lib.hid (show typeP l j t = if (l.take j).any (fun x => same x.name t.name) then (t.name, none0, 14) else relsP l t 0 (t.rels.drop 0) by rw [typeP, if_neg h8]; rfl)
      have hlen8 : t.rels.length ≤ 8 := by omega
      clear h8
      go_wp2_with fail
      clear d0 d1
      go_loopw [7] (fun i wr => ∃ k : Nat, k ≤ j ∧ i = .int .i64 k ∧ Hid ((l.take k).any (fun x => same x.name t.name) = false) ∧ Below Y.heap.size Y wr) (fun i _ => j - (intOf i).toNat)
      case atStart => exact ⟨0, by omega, rfl, Lib.hid rfl, Below.refl _ _⟩
      case round =>
        obtain ⟨k, hk, rfl, hall, hb⟩ := hrel
        have hbw := H1.out.2.2.1.trans (hb.mono H1.out.2.2.1.size)
        obtain ⟨d0, d1⟩ := box2 ((hb.block _ (Array.getElem?_eq_some_iff.1 H1.out.2.1).1).trans H1.out.2.1)
        by_cases hkt : k < j
        · have hkl : k < l.length := by omega
          have b0 := box1 ((hb.block _ (Array.getElem?_eq_some_iff.1 H1.out.2.2.2).1).trans H1.out.2.2.2)
          obtain ⟨g, q, so, sc, vs', hix, hg, c0', -, -⟩ := ty_at HL.out cap hkl
          have c0 := (hbw.cell (p := ⟨g, q, none⟩) hg).trans c0'
          have hat := any_false_take (p := fun x : Ty => same x.name t.name) hkl hall.out
          have hmem : same l[k].name t.name = true → (l.take j).any (fun x => same x.name t.name) = true := fun h => List.any_eq_true.2 ⟨l[k], List.mem_take_iff_getElem.2 ⟨k, by omega, rfl⟩, h⟩
          generalize l[k] = t2 at *
          have HAT := Lib.hid (And.intro hmem hat.2)
          have HB := Lib.hid (And.intro hb hbw)
          clear hat hmem hall hb hbw hg c0' d1
          cases hsm : same t2.name t.name with
          | true =>
            have e1 : (t2.name.toList == t.name.toList) = true := hsm
            have ht : typeP l j t = (t.name, none0, 14) := by rw [HT.out, if_pos (HAT.out.1 hsm)]
            have HE := Lib.hid (show namesP l = (t.name, none0, 14) by rw [HJ.out.2.1, ht]; rfl)
            clear hsm ht
            go_wp2_with fail
            go_quiet (fail)
            go_wp2_with fail
            go_ret3
            exact ⟨by rw [HE.out]; rfl, below_drewN HB.out.2 _⟩
          | false =>
            have e1 : (t2.name.toList == t.name.toList) = false := hsm
            have HE := Lib.hid (HAT.out.2 hsm)
            clear hsm
            go_wp2_with fail
            go_quiet (fail)
            go_wp2_with fail
            go_roundw
            case rel => exact ⟨k + 1, by omega, by go_num, HE, below_drewN HB.out.1 _⟩
            case measure => simp [intOf]; omega
        · have hk' : j = k := by omega
          subst hk'
          have ha := hall.out
          have HT2 := Lib.hid (show typeP l j t = relsP l t 0 (t.rels.drop 0) by rw [HT.out, if_neg (by rw [ha]; decide)])
          have H2 := Lib.hid (And.intro hb (And.intro hbw ((hb.block _ (Array.getElem?_eq_some_iff.1 H1.out.2.1).1).trans H1.out.2.1)))
          clear ha hall hb hbw
          go_wp2_with fail
          clear d0 d1
          go_loopw [50] (fun i wr => ∃ k : Nat, k ≤ t.rels.length ∧ i = .int .i64 k ∧ Hid (typeP l j t = relsP l t k (t.rels.drop k)) ∧ Below Y.heap.size Y wr) (fun i _ => t.rels.length - (intOf i).toNat)
          case atStart => exact ⟨0, by omega, rfl, HT2, H2.out.1⟩
          case round =>
            obtain ⟨k, hk, rfl, hall, hb⟩ := hrel
            clear HT2 H2
            have hbw := H1.out.2.2.1.trans (hb.mono H1.out.2.2.1.size)
            by_cases hkt : k < t.rels.length
            · obtain ⟨d0, d1⟩ := box2 ((hb.block _ (Array.getElem?_eq_some_iff.1 H1.out.2.1).1).trans H1.out.2.1)
              have b0 := box1 ((hb.block _ (Array.getElem?_eq_some_iff.1 H1.out.2.2.2).1).trans H1.out.2.2.2)
              have hq := hall.out.trans (relsP_at hkt)
              obtain ⟨g, q, so, sc, no, nc, ss, hix, hg, c0', -, -, -, -, -, -, -⟩ := rl_at HLT.out rc hkt
              have HR := Lib.hid (rrelx_any l t _ (tyV t (.slice ro t.rels.length rc)) wr (HC.out.1.below hbw) ⟨ro, rc, vs, rfl, HLT.out.on hbw fun _ _ h => h.below hbw⟩ HC.out.2.1 k hkt (HC.out.2.2 t HJ.out.2.2 _ (List.getElem_mem hkt)))
              generalize t.rels[k] = r at *
              have HJ2 := Lib.hid (And.intro hq (And.intro hg c0'))
              have HB := Lib.hid (And.intro hb hbw)
              have HK := Lib.hid (H1.out.2.1)
              clear hq hall hb hbw hg c0'
              go_wp2_with fail
              refine HR.out.mono ?_
              rintro e x ⟨rfl, hx⟩
              have hx1 := HB.out.1.trans (hx.mono HB.out.1.size)
              have hx2 := HB.out.2.trans (hx.mono HB.out.2.size)
              have HX := Lib.hid (And.intro hx1 hx2)
              have c0 := (hx2.cell (p := ⟨g, q, none⟩) HJ2.out.2.1).trans HJ2.out.2.2
              have hk2 := (hx1.block _ (Array.getElem?_eq_some_iff.1 HK.out).1).trans HK.out
              clear hx hx1 hx2 HB HR d0 d1 b0
              obtain ⟨d0, d1⟩ := box2 hk2
              clear hk2
              by_cases hp : relP l t k r = 0
              · have e1 : (relP l t k r != 0) = false := by simpa using hp
                have HE := Lib.hid (HJ2.out.1.trans (if_neg (by simpa using hp)))
                clear hp c0 d0 d1
                go_wp2_with fail
                go_roundw
                case rel => exact ⟨k + 1, by omega, by go_num, HE, HX.out.1⟩
                case measure => simp [intOf]; omega
              · have e1 : (relP l t k r != 0) = true := by simpa using hp
                have ht : typeP l j t = (t.name, r.name, relP l t k r) := HJ2.out.1.trans (if_pos hp)
                have HE := Lib.hid (show namesP l = (t.name, r.name, relP l t k r) by rw [HJ.out.2.1, ht, if_pos (by exact hp)])
                clear hp ht
                go_wp2_with fail
                go_quiet (fail)
                go_wp2_with fail
                go_ret3
                exact ⟨by rw [HE.out]; rfl, below_drewN HX.out.2 _⟩
            · have hk' : k = t.rels.length := by omega
              subst hk'
              have ha := hall.out
              rw [List.drop_length] at ha
              have HE := Lib.hid (show namesP l = typesW l (j + 1) (l.drop (j + 1)) by rw [HJ.out.2.1, ha, if_neg (by simp [relsP])])
              have HB := Lib.hid (H1.out.1.trans (hb.mono H1.out.1.size))
              clear ha hall hb hbw
              go_wp2_with fail
              go_roundw
              case rel => exact ⟨j + 1, by omega, by go_num, HE, HB.out⟩
              case measure => simp [intOf]; omega
    · have hj' : j = l.length := by omega
      subst hj'
      have ha := hall.out
      rw [List.drop_length] at ha
      have HE := Lib.hid ha
      have HB := Lib.hid (H0.out.1.trans (hb.mono H0.out.1.size))
      clear ha hall hb
      go_wp2_with fail
      go_ret3
      exact ⟨by rw [HE.out]; rfl, HB.out⟩
end Lt
end Go.Proofs.YtopncohhagebbaaGreatDoor

namespace Go.Proofs.YtopncohhagebbaaGreatDoor
open Go.RowKit
namespace Lt
open Tr (Nd IsNode node4 none0 size own_open own_slice own_below own_turn IsElem walk_rows wp_rows)
open Gr (Al Rl Ty IsAl IsRl IsTy IsCf Lies ty_at rl_at al_at alV relV tyV tAl tRl tTy tCf box1 box2 box6 two_boxes new_cells)
open Knot (Turns NewRow)

abbrev tIt : TypeId := 35
def itC (a : It) (s : Int) : List Value := [.string a.1, .string a.2, .int .i64 s]
def cellsI (l : List (It × Int)) : List Value := l.flatMap fun a => itC a.1 a.2
theorem cellsI_append (l m : List (It × Int)) : cellsI (l ++ m) = cellsI l ++ cellsI m := List.flatMap_append
def ItRow (B : Nat) (x : World) (v : Value) (l : List (It × Int)) : Prop := x.ownsRow B tIt 3 v l.length (cellsI l)
theorem elemI : Tryz.prog.underlying 104 = some (.slice (Tryz.prog.elem 104)) := by kernel_rfl
theorem sizeI : ∀ w, (sizeOf (Tryz.prog.elem 104)).run Tryz.prog w = .ok 3 w := fun w => by kernel_rfl
set_option maxRecDepth 100000 in
theorem its_elem : ∃ i z b, IsElem Tryz.prog 104 tIt i z 3 b ∧ b ≤ 100 := by
  refine ⟨_, _, _, ⟨by kernel_rfl, rfl, rfl, by kernel_rfl, rfl, by kernel_rfl, by omega⟩, ?_⟩
  exact of_decide_eq_true (by kernel_rfl)
theorem cellsI_at : ∀ (l : List (It × Int)) {j : Nat} (h : j < l.length), (cellsI l)[j * 3]? = some (.string l[j].1.1) ∧ (cellsI l)[j * 3 + 1]? = some (.string l[j].1.2) ∧ (cellsI l)[j * 3 + 2]? = some (.int .i64 l[j].2)
  | a :: l, 0, _ => ⟨rfl, rfl, rfl⟩
  | a :: l, j + 1, h => by
    have hj : j < l.length := by simpa using h
    obtain ⟨h0, h1, h2⟩ := cellsI_at l hj
    have e : cellsI (a :: l) = itC a.1 a.2 ++ cellsI l := List.flatMap_cons
    have e3 : (itC a.1 a.2).length = 3 := rfl
    refine ⟨?_, ?_, ?_⟩
    · rw [e, List.getElem?_append_right (by omega), e3, show (j + 1) * 3 - 3 = j * 3 by omega]; exact h0
    · rw [e, List.getElem?_append_right (by omega), e3, show (j + 1) * 3 + 1 - 3 = j * 3 + 1 by omega]; exact h1
    · rw [e, List.getElem?_append_right (by omega), e3, show (j + 1) * 3 + 2 - 3 = j * 3 + 2 by omega]; exact h2
theorem it_at {B : Nat} {x : World} {v : Value} {l : List (It × Int)} (h : ItRow B x v l) {j : Nat} (hj : j < l.length) :
    ∃ g q, (∀ W, (Instr.indexAt 104 v (.int .i64 (j : Int))).run Tryz.prog W = .ok (.pointer (some ⟨g, q, none⟩)) W) ∧ B ≤ g ∧ g < x.heap.size ∧
      x.cell? ⟨g, q, none⟩ = some (.string l[j].1.1) ∧ x.cell? ⟨g, q + 1, none⟩ = some (.string l[j].1.2) ∧ x.cell? ⟨g, q + 2, none⟩ = some (.int .i64 l[j].2) := by
  obtain ⟨n, hn⟩ : ∃ n, l.length = n + 1 := ⟨l.length - 1, by omega⟩
  have h' : x.ownsRow B tIt 3 v l.length (cellsI l) := h
  rw [hn] at h'
  obtain ⟨g, rc, rfl, hB, hg, -, hc⟩ := own_open h'
  obtain ⟨c0, c1, c2⟩ := cellsI_at l hj
  refine ⟨g, j * 3, fun W => ?_, hB, hg, hc _ _ c0, hc _ _ c1, hc _ _ c2⟩
  rw [run_indexAt_slice W _ _ _ _ _ _ elemI, if_pos ⟨by omega, by omega⟩, sizeI]
  have e : ((j : Int)).toNat = j := by omega
  simp only [Result.andThen_ok, e, Addr.add_lit, Nat.zero_add]
def zr (l : List It) : List (It × Int) := l.map fun a => (a, 0)
theorem zr_len (l : List It) : (zr l).length = l.length := List.length_map _
theorem zr_append (l m : List It) : zr (l ++ m) = zr l ++ zr m := List.map_append
theorem items_take {l : List Ty} {j : Nat} (h : j < l.length) : items (l.take (j + 1)) = items (l.take j) ++ itemsT l[j] := by
  rw [items, List.take_succ_eq_append_getElem h, List.flatMap_append]
  simp [items]
theorem itemsT_take (t : Ty) {k : Nat} (h : k < t.rels.length) : itemsT ⟨t.name, t.rels.take (k + 1)⟩ = itemsT ⟨t.name, t.rels.take k⟩ ++ [(t.name, t.rels[k].name)] := by
  simp only [itemsT]
  rw [List.take_succ_eq_append_getElem h, List.map_append]
  rfl
theorem items_part (l : List Ty) (j : Nat) : (items (l.take j)).length ≤ (items l).length := by
  have e : items l = items (l.take j) ++ items (l.drop j) := by rw [items, items, items, ← List.flatMap_append, List.take_append_drop]
  rw [e, List.length_append]
  omega

set_option maxHeartbeats 16000000 in
set_option maxRecDepth 100000 in
theorem ritems_any (l : List Ty) (v : Value) (w : World) (h : IsCf w l v) (hn : (items l).length ≤ 100000) :
    Calls Tryz.prog 73 #[v] w fun e y => ∃ u, e = .returned u ∧ ItRow w.heap.size y u (zr (items l)) ∧ Below w.heap.size w y := by
  obtain ⟨ao, cap, us, rfl, hl⟩ := h
  have h0 := heap_alloc_new w (.cells #[.slice ao l.length cap] tCf)
  have al := Tr.fresh_one w (.cells #[.slice ao l.length cap] tCf)
  have hs0 : (w.alloc (.cells #[.slice ao l.length cap] tCf)).heap.size = w.heap.size + 1 := by simp
  have HL := Lib.hid hl
  have H0 := Lib.hid (And.intro al (And.intro h0 hs0))
  have hbig : l.length ≤ 9223372036854775807 := hl.big
  clear hl h0 al hs0
  go_enter Tryz.func73, Tryz.ntmps73
  go_upto_region 2 with fail
  generalize w.alloc (.cells #[.slice ao l.length cap] tCf) = X at *
  have b0 := box1 H0.out.2.1
  go_wp2_with fail
  clear b0
  go_loopw [3, 9] (fun ov i wr => ∃ j : Nat, j ≤ l.length ∧ i = .int .i64 j ∧ Hid (ItRow (w.heap.size + 1) wr ov (zr (items (l.take j))) ∧ Below (w.heap.size + 1) X wr)) (fun _ i _ => l.length - (intOf i).toNat)
  case atStart => exact ⟨0, by omega, rfl, Lib.hid ⟨World.ownsRow_nil _ _ _ _, Below.refl _ _⟩⟩
  case round =>
    obtain ⟨j, hj, rfl, HJ⟩ := hrel
    obtain ⟨oo, oc, rfl⟩ := own_slice HJ.out.1
    by_cases hlt : j < l.length
    · have hbw : Below w.heap.size w wr := H0.out.1.trans (HJ.out.2.mono (by omega))
      have b0 := box1 ((HJ.out.2.block w.heap.size (by omega)).trans H0.out.2.1)
      obtain ⟨g, q, ro, rc, vs, hix, hg, c0', c1', hla⟩ := ty_at HL.out cap hlt
      have c1 := (hbw.cell (p := ⟨g, q + 1, none⟩) hg).trans c1'
      have htk := items_take hlt
      have hpart := items_part l (j + 1)
      rw [htk, List.length_append] at hpart
      generalize l[j] = t at *
      have HLT := Lib.hid hla
      have hbig2 : t.rels.length ≤ 9223372036854775807 := hla.big
      have HT := Lib.hid (And.intro htk (And.intro hg (And.intro c0' c1')))
      have hsum : (items (l.take j)).length + t.rels.length ≤ 100000 := by rw [itemsT, List.length_map] at hpart; omega
      clear hla htk hpart hg c0' c1' hbw
      go_wp2_with fail
      clear b0 c1
      generalize items (l.take j) = L at *
      go_loopw [3, 19] (fun ov i wr => ∃ k : Nat, k ≤ t.rels.length ∧ i = .int .i64 k ∧ Hid (ItRow (w.heap.size + 1) wr ov (zr (L ++ itemsT ⟨t.name, t.rels.take k⟩)) ∧ Below (w.heap.size + 1) X wr)) (fun _ i _ => t.rels.length - (intOf i).toNat)
      case atStart => exact ⟨0, by omega, rfl, Lib.hid ⟨by simpa [itemsT] using HJ.out.1, HJ.out.2⟩⟩
      case round =>
        obtain ⟨k, hk, rfl, HK⟩ := hrel
        clear HJ
        obtain ⟨oo, oc, rfl⟩ := own_slice HK.out.1
        by_cases hkt : k < t.rels.length
        · obtain ⟨g2, q2, so, sc, no, nc, ss, hix2, hg2, d0', -, -, -, -, -, -, -⟩ := rl_at HLT.out rc hkt
          have htk := itemsT_take t hkt
          have hlenk : (zr (L ++ itemsT ⟨t.name, t.rels.take k⟩)).length ≤ 100000 := by
            rw [zr_len, List.length_append, itemsT, List.length_map, List.length_take]
            omega
          generalize t.rels[k] = r at *
          have HX := Lib.hid (show ∀ y, Below (w.heap.size + 1) wr.drew y → y.cell? ⟨w.heap.size, 0, none⟩ = some (.slice ao l.length cap) ∧ y.cell? ⟨g, q, none⟩ = some (.string t.name) ∧ y.cell? ⟨g, q + 1, none⟩ = some (.slice ro t.rels.length rc) ∧ y.cell? ⟨g2, q2, none⟩ = some (.string r.name) from fun y hy => by
            have hy1 : Below (w.heap.size + 1) X y := HK.out.2.drew.trans hy
            have hy2 : Below w.heap.size w y := H0.out.1.trans (hy1.mono (by omega))
            exact ⟨box1 ((hy1.block w.heap.size (by omega)).trans H0.out.2.1), (hy2.cell (p := ⟨g, q, none⟩) HT.out.2.1).trans HT.out.2.2.1, (hy2.cell (p := ⟨g, q + 1, none⟩) HT.out.2.1).trans HT.out.2.2.2, (hy2.cell (p := ⟨g2, q2, none⟩) hg2).trans d0'⟩)
          have HTK := Lib.hid htk
          have hsz : w.heap.size + 1 ≤ wr.heap.size := by have := HK.out.2.size; have := H0.out.2.2; omega
          clear d0' hg2 htk
          go_wp2_with fail
          refine Order.region_begin (S := Below (w.heap.size + 1) wr.drew) (by kernel_rfl) ?_
          refine Order.reads_any (idx := [0, 1, 2, 3, 4, 5, 6, 7, 8, 9, 10, 11, 12, 13, 14, 15, 16, 17]) (by kernel_rfl) (Below.refl _ _) (fun _ _ _ _ _ h => Order.noPanic_put h) 3 _ _ (by decide +kernel) ?_
          simp only [Order.pick, List.getElem?_toArray, List.getElem?_cons_zero, List.getElem?_cons_succ]
          repeat (first
            | (refine Order.reads_off (by rfl) ?_
               simp only [Act.put, List.setIfInBounds_toArray, List.set_cons_zero, List.set_cons_succ])
            | (apply Order.reads_on
               · rfl
               · intro x hx
                 first
                   | (go_simp; rfl)
                   | (obtain ⟨i1, i2, i3, i4⟩ := HX.out x hx
                      go_simp; rfl)
               simp only [Act.put, List.setIfInBounds_toArray, List.set_cons_zero, List.set_cons_succ]))
          refine Order.reads_end ?_
          apply Order.acts_any (R := (Below (w.heap.size + 1))) (fun h k => h.trans k) (i := 18)
          · rfl
          · decide +kernel
          · rfl
          unfold Oper.wp
          go_simp
          have al : Below (w.heap.size + 1) wr.drew (wr.alloc (.cells #[.string t.name, .string r.name, .int .i64 0] tIt)).drew := ⟨rfl, rfl, rfl, (Tr.fresh_one wr (.cells #[.string t.name, .string r.name, .int .i64 0] tIt)).size, fun i hi => (Tr.fresh_one wr (.cells #[.string t.name, .string r.name, .int .i64 0] tIt)).block i (by omega)⟩
          refine ⟨al, ?_⟩
          have hrow : ItRow (w.heap.size + 1) (wr.alloc (.cells #[.string t.name, .string r.name, .int .i64 0] tIt)).drew (.slice oo (zr (L ++ itemsT ⟨t.name, t.rels.take k⟩)).length oc) (zr (L ++ itemsT ⟨t.name, t.rels.take k⟩)) := own_below (own_below HK.out.1 (Tr.fresh_one wr (.cells #[.string t.name, .string r.name, .int .i64 0] tIt))) (Below.refl _ _).drew
          have hnew : ∀ j u, ([.string t.name, .string r.name, .int .i64 0] : List Value)[j]? = some u → (wr.alloc (.cells #[.string t.name, .string r.name, .int .i64 0] tIt)).drew.cell? ((⟨wr.heap.size, 0, none⟩ : Addr).add j) = some u := new_cells wr tIt [.string t.name, .string r.name, .int .i64 0] rfl
          have hsz2 : w.heap.size + 1 ≤ (wr.alloc (.cells #[.string t.name, .string r.name, .int .i64 0] tIt)).drew.heap.size := Nat.le_trans hsz al.size
          have HAL := Lib.hid (And.intro al (And.intro hrow (And.intro hnew hsz2)))
          clear al hrow hnew hsz2
          generalize (wr.alloc (.cells #[.string t.name, .string r.name, .int .i64 0] tIt)).drew = W4 at *
          obtain ⟨ti, tz, tb, TE, hT⟩ := its_elem
          apply Order.acts_any (R := (Below (w.heap.size + 1))) (fun h k => h.trans k) (i := 19)
          · rfl
          · decide +kernel
          · rfl
          simp only [List.getElem_toArray, List.getElem_cons_succ, List.getElem_cons_zero]
          refine wp_rows TE (.tmp 22) (.tmp 40) rfl (by rfl) (by rfl) HAL.out.2.1 HAL.out.2.2.2 (m := 1) rfl HAL.out.2.2.1 (by intro u' hu'; simp at hu'; rcases hu' with rfl | rfl | rfl <;> rfl) (by omega) (Nat.le_trans (Nat.mul_le_mul_left _ hT) (by omega)) ?_
          intro v5 W5 r5 g5 n5
          have hb5 : Below (w.heap.size + 1) W4 W5 := (Below.refl _ _).grown g5 HAL.out.2.2.2 fun k hk => (World.ownsRow.lt HAL.out.2.1 k hk).1
          refine ⟨hb5, ?_⟩
          simp only [Act.put, List.setIfInBounds_toArray, List.set_cons_zero, List.set_cons_succ]
          have HW5 := Lib.hid (And.intro r5 (HK.out.2.drew.trans (HAL.out.1.trans hb5)))
          clear r5 g5 n5 hb5 HAL
          refine Order.reads_any (idx := [20]) (by kernel_rfl) (Below.refl _ _) (fun _ _ _ _ _ h => Order.noPanic_put h) 0 _ _ (by decide +kernel) ?_
          simp only [Order.pick, List.getElem?_toArray, List.getElem?_cons_zero, List.getElem?_cons_succ]
          repeat (first
            | (refine Order.reads_off (by rfl) ?_
               simp only [Act.put, List.setIfInBounds_toArray, List.set_cons_zero, List.set_cons_succ])
            | (apply Order.reads_on
               · rfl
               · intro x hx
                 first
                   | (go_simp; rfl)
                   | (fail
                      go_simp; rfl)
               simp only [Act.put]))
          refine Order.reads_end ?_
          refine wpAnyH_done (by decide +kernel) ?_ _
          refine NoPanic.normal ?_
          go_wp2_with fail
          go_roundw
          case rel =>
            refine ⟨k + 1, by omega, by go_num, Lib.hid ⟨?_, HW5.out.2⟩⟩
            rw [HTK.out, ← List.append_assoc, zr_append]
            show World.ownsRow _ _ _ _ _ _ _
            rw [List.length_append, cellsI_append]
            exact HW5.out.1
          case measure => simp [intOf]; omega
        · have hk' : k = t.rels.length := by omega
          subst hk'
          have hr := HK.out.1
          rw [List.take_length] at hr
          have HR := Lib.hid (And.intro hr HK.out.2)
          clear hr
          go_wp2_with fail
          go_roundw
          case rel =>
            refine ⟨j + 1, by omega, by go_num, Lib.hid ⟨?_, HR.out.2⟩⟩
            rw [HT.out.1, List.take_length]
            exact HR.out.1
          case measure => simp [intOf]; omega
    · have hj' : j = l.length := by omega
      subst hj'
      have hr := HJ.out.1
      rw [List.take_length] at hr
      have HR := Lib.hid (And.intro hr (H0.out.1.trans (HJ.out.2.mono (by omega))))
      clear hr HJ
      go_wp2_with fail
      go_ret
      refine ⟨_, rfl, ?_, HR.out.2⟩
      rw [List.take_length]
      exact World.ownsRow.mono HR.out.1 (by omega)
end Lt
end Go.Proofs.YtopncohhagebbaaGreatDoor

namespace Go.Proofs.YtopncohhagebbaaGreatDoor
open Go.RowKit
namespace Lt
open Tr (own_open own_slice own_below own_turn IsElem)
open Knot (Turns NewRow)

def pre (n i k m : Nat) : List (Nat × Nat × Nat) :=
  ((List.range i).flatMap fun a => (List.range n).flatMap fun b => (List.range n).map fun c => (a, b, c)) ++ (((List.range k).flatMap fun b => (List.range n).map fun c => (i, b, c)) ++ (List.range m).map fun c => (i, k, c))
theorem pre_step (n i k m : Nat) : pre n i k (m + 1) = pre n i k m ++ [(i, k, m)] := by
  simp [pre, List.range_succ]
theorem pre_row (n i k : Nat) : pre n i k n = pre n i (k + 1) 0 := by
  simp [pre, List.range_succ]
theorem pre_all (n i : Nat) : pre n i n 0 = pre n (i + 1) 0 0 := by
  simp [pre, List.range_succ]
theorem pre_end (n : Nat) : pre n n 0 0 = triples n := by
  simp [pre, triples]
theorem looks_append (N : Nat) (l m : List (Nat × Nat × Nat)) (s : Tbl × Bool) : looks N (l ++ m) s = looks N m (looks N l s) := List.foldl_append
theorem looks_step {n N i k m : Nat} {s t : Tbl × Bool} (h : t = looks N (pre n i k m) s) : look N t (i, k, m) = looks N (pre n i k (m + 1)) s := by
  rw [pre_step, looks_append, ← h]
  rfl
theorem sound_most {n N : Nat} {e w : Tbl} (h : Sound n N e w) {i k : Nat} (hi : i < n) (hk : k < n) : -1 ≤ w i k ∧ w i k ≤ N := by
  refine ⟨h.least i k, ?_⟩
  by_cases h0 : 0 ≤ w i k
  · obtain ⟨L, -, hL⟩ := h.way i k hi hk h0
    rw [hL]
    exact Int.min_le_right ..
  · omega

abbrev tIn : TypeId := 3
abbrev tRo : TypeId := 93
theorem elemR1 : Tryz.prog.underlying 93 = some (.slice (Tryz.prog.elem 93)) := by kernel_rfl
theorem sizeR1 : ∀ w, (sizeOf (Tryz.prog.elem 93)).run Tryz.prog w = .ok 1 w := fun w => by kernel_rfl
theorem elemR2 : Tryz.prog.underlying 140 = some (.slice (Tryz.prog.elem 140)) := by kernel_rfl
theorem sizeR2 : ∀ w, (sizeOf (Tryz.prog.elem 140)).run Tryz.prog w = .ok 1 w := fun w => by kernel_rfl
set_option maxRecDepth 100000 in
theorem ints_elem : ∃ i z b, IsElem Tryz.prog 93 tIn i z 1 b ∧ b ≤ 100 := by
  refine ⟨_, _, _, ⟨by kernel_rfl, rfl, rfl, by kernel_rfl, rfl, by kernel_rfl, by omega⟩, ?_⟩
  exact of_decide_eq_true (by kernel_rfl)
set_option maxRecDepth 100000 in
theorem rows_elem : ∃ i z b, IsElem Tryz.prog 140 tRo i z 1 b ∧ b ≤ 100 := by
  refine ⟨_, _, _, ⟨by kernel_rfl, rfl, rfl, by kernel_rfl, rfl, by kernel_rfl, by omega⟩, ?_⟩
  exact of_decide_eq_true (by kernel_rfl)
def rowV (n : Nat) (g : Nat × Nat) : Value := .slice (some ⟨g.1, 0, none⟩) n g.2
def Line (x : World) (g n : Nat) (t : Nat → Int) : Prop := ∃ cur, x.heap[g]? = some (.cells cur tIn (0, 0)) ∧ ∀ k, k < n → cur[k]? = some (.int .i64 (t k))
structure Rws (B : Nat) (x : World) (v : Value) (n : Nat) (gs : List (Nat × Nat)) (T : Tbl) : Prop where
  own : x.ownsRow B tRo 1 v gs.length (gs.map (rowV n))
  row : ∀ i (h : i < gs.length), Line x gs[i].1 n (T i)
  low : ∀ g ∈ gs, B ≤ g.1
  far : ∀ g ∈ gs, v.ownBlock ≠ some g.1
  nod : (gs.map Prod.fst).Nodup
section
variable {B n : Nat} {x y : World} {v : Value} {gs : List (Nat × Nat)} {T : Tbl}
theorem Line.lt {g : Nat} {t : Nat → Int} (h : Line x g n t) : g < x.heap.size := by
  obtain ⟨cur, h1, -⟩ := h
  exact (Array.getElem?_eq_some_iff.1 h1).1
theorem Line.kept {g : Nat} {t : Nat → Int} (h : Line x g n t) (hk : y.heap[g]? = x.heap[g]?) : Line y g n t := by
  obtain ⟨cur, h1, h2⟩ := h
  exact ⟨cur, hk.trans h1, h2⟩
theorem Rws.nil (B : Nat) (x : World) (n : Nat) (T : Tbl) : Rws B x (.slice none 0 0) n [] T :=
  ⟨World.ownsRow_nil _ _ _ _, fun i h => absurd h (by simp), fun _ h => (List.not_mem_nil h).elim, fun _ h => (List.not_mem_nil h).elim, List.nodup_nil⟩
theorem Rws.below (h : Rws B x v n gs T) (hb : Below x.heap.size x y) : Rws B y v n gs T :=
  ⟨own_below h.own hb, fun i hi => (h.row i hi).kept (hb.block _ (h.row i hi).lt), h.low, h.far, h.nod⟩
theorem Rws.all_lt (h : Rws B x v n gs T) : ∀ g ∈ gs, g.1 < x.heap.size := fun g hg => by
  obtain ⟨i, hi, rfl⟩ := List.getElem_of_mem hg
  exact (h.row i hi).lt
theorem Rws.mono (h : Rws B x v n gs T) {C : Nat} (hC : C ≤ B) : Rws C x v n gs T :=
  ⟨World.ownsRow.mono h.own hC, h.row, fun g hg => Nat.le_trans hC (h.low g hg), h.far, h.nod⟩
theorem Rws.more (h : Rws B x v n gs T) {g : Nat × Nat} {t : Nat → Int} (hl : Line x g.1 n t) (hB : B ≤ g.1) (hnew : ∀ a ∈ gs, a.1 ≠ g.1) (hv : v.ownBlock ≠ some g.1) {v' : Value}
    (ho : y.ownsRow B tRo 1 v' (gs.length + 1) (gs.map (rowV n) ++ [rowV n g])) (hg : x.grownBy y v.ownBlock) (hn : NewRow x v v') {T' : Tbl} (hT : ∀ i, i < gs.length → T' i = T i) (ht : T' gs.length = t) :
    Rws B y v' n (gs ++ [g]) T' := by
  have keep : ∀ {a : Nat} {u : Nat → Int}, Line x a n u → v.ownBlock ≠ some a → Line y a n u := fun hl hne => hl.kept (hg.block _ hl.lt (fun e => hne e.symm))
  have lt : ∀ a ∈ gs, a.1 < x.heap.size := h.all_lt
  refine ⟨by rw [List.length_append, List.length_singleton, List.map_append]; exact ho, fun i hi => ?_, fun a ha => ?_, fun a ha e => ?_, ?_⟩
  · rw [List.length_append, List.length_singleton] at hi
    by_cases hlt : i < gs.length
    · rw [List.getElem_append_left hlt, hT i hlt]
      exact keep (h.row i hlt) (h.far _ (List.getElem_mem hlt))
    · obtain rfl : i = gs.length := by omega
      rw [List.getElem_append_right (by omega), ht]
      simp only [Nat.sub_self, List.getElem_cons_zero]
      exact keep hl hv
  · rcases List.mem_append.1 ha with ha | ha
    · exact h.low a ha
    · rw [List.mem_singleton] at ha; subst ha; exact hB
  · rcases hn _ e with e2 | e2
    · rcases List.mem_append.1 ha with ha | ha
      · exact h.far a ha e2
      · rw [List.mem_singleton] at ha; subst ha; exact hv e2
    · rcases List.mem_append.1 ha with ha | ha
      · have := lt a ha; omega
      · rw [List.mem_singleton] at ha; subst ha; have := hl.lt; omega
  · rw [List.map_append, List.nodup_append]
    refine ⟨h.nod, by simp, fun a ha b hb e => ?_⟩
    obtain ⟨a', ha', rfl⟩ := List.mem_map.1 ha
    simp only [List.map_cons, List.map_nil, List.mem_singleton] at hb
    exact hnew a' ha' (e.trans hb)
theorem Rws.at (h : Rws B x v n gs T) {i k : Nat} (hi : i < gs.length) (hk : k < n) (hn : gs.length = n) :
    ∃ g0 g c, (∀ W, (Instr.indexAt 140 v (.int .i64 (i : Int))).run Tryz.prog W = .ok (.pointer (some ⟨g0, i, none⟩)) W) ∧ x.cell? ⟨g0, i, none⟩ = some (.slice (some ⟨g, 0, none⟩) n c) ∧ g0 < x.heap.size ∧
      (∀ W, (Instr.indexAt 93 (.slice (some ⟨g, 0, none⟩) n c) (.int .i64 (k : Int))).run Tryz.prog W = .ok (.pointer (some ⟨g, k, none⟩)) W) ∧ x.cell? ⟨g, k, none⟩ = some (.int .i64 (T i k)) ∧ x.frozen? ⟨g, k, none⟩ = false ∧ g = gs[i].1 ∧ g < x.heap.size := by
  obtain ⟨m, hm⟩ : ∃ m, gs.length = m + 1 := ⟨gs.length - 1, by omega⟩
  have h' := h.own
  rw [hm] at h'
  obtain ⟨g0, rc, rfl, -, hg0, -, hc⟩ := own_open h'
  obtain ⟨cur, h1, h2⟩ := h.row i hi
  refine ⟨g0, gs[i].1, gs[i].2, fun W => ?_, hc i _ (by rw [List.getElem?_map, List.getElem?_eq_getElem hi]; rfl), hg0, fun W => ?_, ?_, Lib.frozen_of_heap h1 k, rfl, (h.row i hi).lt⟩
  · rw [run_indexAt_slice W _ _ _ _ _ _ elemR2, if_pos ⟨by omega, by omega⟩, sizeR2]
    have e : ((i : Int)).toNat = i := by omega
    simp only [Result.andThen_ok, e, Addr.add_lit, Nat.zero_add, Nat.mul_one]
  · rw [run_indexAt_slice W _ _ _ _ _ _ elemR1, if_pos ⟨by omega, by omega⟩, sizeR1]
    have e : ((k : Int)).toNat = k := by omega
    simp only [Result.andThen_ok, e, Addr.add_lit, Nat.zero_add, Nat.mul_one]
  · rw [Lib.cell_of_heap h1]
    exact h2 k hk
theorem Rws.put (h : Rws B x v n gs T) {i k : Nat} (hi : i < gs.length) (_hn : gs.length = n) (z : Int) : Rws B (x.setCell ⟨gs[i].1, k, none⟩ (.int .i64 z)) v n gs (put T i k z) := by
  have ht : Turns (fun g => g = gs[i].1) x (x.setCell ⟨gs[i].1, k, none⟩ (.int .i64 z)) := (Turns.refl (fun g => g = gs[i].1) x).setCell (p := ⟨gs[i].1, k, none⟩) rfl _
  refine ⟨own_turn h.own ht (fun a ha e => h.far _ (List.getElem_mem hi) (by rw [ha, e])), fun j hj => ?_, h.low, h.far, h.nod⟩
  by_cases e : j = i
  · subst e
    obtain ⟨cur, h1, h2⟩ := h.row j hj
    refine ⟨_, Lib.heap_setCell_same h1 _, fun c hc => ?_⟩
    rw [Array.getElem?_setIfInBounds]
    by_cases ek : k = c
    · subst ek
      have hs : k < cur.size := (Array.getElem?_eq_some_iff.1 (h2 k hc)).1
      rw [if_pos rfl, if_pos hs, Lt.put, if_pos ⟨rfl, rfl⟩]
    · rw [if_neg ek, h2 c hc, Lt.put, if_neg (fun hh => ek hh.2.symm)]
  · have hne : gs[j].1 ≠ gs[i].1 := fun he => by
      have h3 : (gs.map Prod.fst)[j]? = (gs.map Prod.fst)[i]? := by rw [List.getElem?_map, List.getElem?_map, List.getElem?_eq_getElem hj, List.getElem?_eq_getElem hi]; exact congrArg some he
      exact e ((List.getElem?_inj (by rw [List.length_map]; exact hj) h.nod).1 h3)
    have h4 := (h.row j hj).kept (ht.block _ (h.row j hj).lt hne)
    have h5 : Lt.put T i k z j = T j := by
      funext c
      rw [Lt.put, if_neg (fun hh => e hh.1)]
    rw [h5]
    exact h4
theorem Rws.store_below (h : Rws B x v n gs T) {i k : Nat} (hi : i < gs.length) (hB : B ≤ x.heap.size) (z : Int) : Below B x (x.setCell ⟨gs[i].1, k, none⟩ (.int .i64 z)) := by
  have ht : Turns (fun g => g = gs[i].1) x (x.setCell ⟨gs[i].1, k, none⟩ (.int .i64 z)) := (Turns.refl (fun g => g = gs[i].1) x).setCell (p := ⟨gs[i].1, k, none⟩) rfl _
  exact ht.below hB fun a e => by rw [e]; exact h.low _ (List.getElem_mem hi)
end
end Lt
end Go.Proofs.YtopncohhagebbaaGreatDoor
