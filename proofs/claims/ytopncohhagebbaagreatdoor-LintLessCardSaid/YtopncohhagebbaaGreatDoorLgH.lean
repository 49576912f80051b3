/-
  Layer 9's document: Hangs: whether a relation hangs on another one. Written by gen/mk_lth.py and ord.py.
  Layer 9's document: Ways: the table of the greatest numbers of odd steps. Written by gen/mk_ltj.py and ord.py.
-/
import Derived.Test.YtopncohhagebbaaGreatDoorLgF
import Derived.Deep.LoopGhost
namespace Go.Proofs.YtopncohhagebbaaGreatDoor
open Go.RowKit
namespace Lt
open Tr (Nd IsNode node4 none0 size own_open own_slice own_below IsElem Rf refs direct rdirect_any rrefs_any RRefsAt RRefs rref_at RefCells)
open Gr (Al Rl Ty IsAl IsRl IsTy IsCf Lies ty_at rl_at al_at alV relV tyV tAl tRl tTy tCf box1 box2 box6 two_boxes)
open Cn (box3 all_at)
open Who (wp_region_class quiet_of)

abbrev itV (a : It) (s : Int) : Value := .agg #[.string a.1, .string a.2, .int .i64 s]
theorem zR_small : size zR.expr ≤ 300 ∧ zR.allow.length ≤ 100000 := by
  constructor
  · show size (.mk 0 none0 none0 []) ≤ 300
    simp [Tr.size, Tr.sizes]
  · exact Nat.zero_le _
theorem relC_small {l : List Ty} (hs : Scant l) (hz : Slim l) (ty rl : ByteArray) : size ((relC l ty rl).getD zR).expr ≤ 300 ∧ ((relC l ty rl).getD zR).allow.length ≤ 100000 := by
  cases h : relC l ty rl with
  | none => exact zR_small
  | some r =>
    obtain ⟨t, h1, h2⟩ := relC_mem h
    exact ⟨hz t h1 r h2, hs t h1 r h2⟩
theorem any_and {α : Type} (p : α → Bool) (D : Bool) : ∀ l : List α, (l.any p && D) = l.any fun x => p x && D
  | [] => by simp
  | a :: l => by
    rw [List.any_cons, List.any_cons, ← any_and p D l]
    cases p a <;> cases D <;> simp
theorem hangs_is (l : List Ty) (a b : It) (odd : Bool) {rr : Rl} (h : (relC l a.1 a.2).getD zR = rr) : hangs l a b odd = ((rr.allow.any fun x => allowTo x b && direct rr.expr odd false) || (refs rr.expr false).any (refTo l a b odd)) := by
  rw [hangs, h, any_and]

set_option maxHeartbeats 16000000 in
set_option maxRecDepth 100000 in
theorem rhangs_any (l : List Ty) (v : Value) (w : World) (h : IsCf w l v) (hs : Scant l) (hz : Slim l) (a b : It) (sa sb : Int) (odd : Bool) :
    Calls Tryz.prog 12 #[v, itV a sa, itV b sb, .bool odd] w fun e y => e = .returned (.bool (hangs l a b odd)) ∧ Below w.heap.size w y := by
  obtain ⟨a1, a2⟩ := a
  obtain ⟨b1, b2⟩ := b
  have HC := Lib.hid (And.intro h (And.intro hs hz))
  have hrel := rrelw_any l v
  obtain ⟨ao, cap, us, rfl, -⟩ := h
  obtain ⟨q1, q2, q3, q4⟩ := two_boxes w #[.slice ao l.length cap] #[.string a1, .string a2, .int .i64 sa] tCf tIt
  have al := (Tr.fresh_one ((w.alloc (.cells #[.slice ao l.length cap] tCf)).alloc (.cells #[.string a1, .string a2, .int .i64 sa] tIt)) (.cells #[.string b1, .string b2, .int .i64 sb] tIt))
  have hk := heap_alloc_new ((w.alloc (.cells #[.slice ao l.length cap] tCf)).alloc (.cells #[.string a1, .string a2, .int .i64 sa] tIt)) (.cells #[.string b1, .string b2, .int .i64 sb] tIt)
  rw [q4] at hk
  have H0 := Lib.hid (And.intro (q1.trans (al.mono q1.size)) (And.intro ((al.block _ (by omega)).trans q2) (And.intro ((al.block _ (by omega)).trans q3) hk)))
  clear q1 q2 q3 q4 al hk
  go_enter Tryz.func12, Tryz.ntmps12
  go_upto_region 1 with fail
  generalize ((w.alloc (.cells #[.slice ao l.length cap] tCf)).alloc (.cells #[.string a1, .string a2, .int .i64 sa] tIt)).alloc (.cells #[.string b1, .string b2, .int .i64 sb] tIt) = X at *
  have b0 := box1 H0.out.2.1
  obtain ⟨k0, k1, k2⟩ := box3 H0.out.2.2.1
  have HR := Lib.hid (rrelw_any l _ X (HC.out.1.below H0.out.1) a1 a2)
  have hsm := relC_small hs hz a1 a2
  have hha := fun odd => hangs_is l (a1, a2) (b1, b2) odd rfl
  clear hrel hs hz
  generalize (relC l a1 a2).getD zR = rr at *
  go_wp2_with fail
  refine HR.out.mono ?_
  rintro e x ⟨u, rfl, ⟨o2, s2, o3, s3, us2, rfl, hla, hnd⟩, hx⟩
  have al := Tr.fresh_one x (.cells #[.string rr.name, .slice o2 rr.allow.length s2, .int .i64 rr.expr.kind, .string rr.expr.ta, .string rr.expr.tb, .slice o3 rr.expr.kids.length s3] tRl)
  have hk := heap_alloc_new x (.cells #[.string rr.name, .slice o2 rr.allow.length s2, .int .i64 rr.expr.kind, .string rr.expr.ta, .string rr.expr.tb, .slice o3 rr.expr.kids.length s3] tRl)
  have hbx := hx.trans (al.mono hx.size)
  have H1 := Lib.hid (And.intro (H0.out.1.trans (hbx.mono H0.out.1.size)) (And.intro ((hbx.block _ (Array.getElem?_eq_some_iff.1 H0.out.2.1).1).trans H0.out.2.1) (And.intro ((hbx.block _ (Array.getElem?_eq_some_iff.1 H0.out.2.2.1).1).trans H0.out.2.2.1) (And.intro ((hbx.block _ (Array.getElem?_eq_some_iff.1 H0.out.2.2.2).1).trans H0.out.2.2.2) hk))))
  have HA := Lib.hid (And.intro (hla.on hbx fun _ _ h => h) (hnd.below hbx))
  have HS := Lib.hid hsm
  have HQ := Lib.hid (hha odd)
  have hbig : rr.allow.length ≤ 9223372036854775807 := hla.big
  clear hla hnd hx al hk hbx b0 k0 k1 k2 HR hha H0 hsm
  go_upto_region 2 with fail
  generalize x.alloc (.cells #[.string rr.name, .slice o2 rr.allow.length s2, .int .i64 rr.expr.kind, .string rr.expr.ta, .string rr.expr.tb, .slice o3 rr.expr.kids.length s3] tRl) = Y at *
  generalize x.heap.size = R3 at *
  have d1 := (box6 H1.out.2.2.2.2).2.1
  go_wp2_with fail
  clear d1
  have HD := Lib.hid (fun y (hy : Below Y.heap.size Y y) => rdirect_any (size rr.expr) rr.expr odd false _ y (Nat.le_refl _) HS.out.1 (HA.out.2.below hy))
  generalize hDv : direct rr.expr odd false = D at *
  clear hDv
  -- what it allows
  go_loopw [30] (fun i wr => ∃ j : Nat, j ≤ rr.allow.length ∧ i = .int .i64 j ∧ Hid ((rr.allow.take j).any (fun x => allowTo x (b1, b2) && D) = false) ∧ Below Y.heap.size Y wr) (fun i _ => rr.allow.length - (intOf i).toNat)
  case atStart => exact ⟨0, by omega, rfl, Lib.hid rfl, Below.refl _ _⟩
  case round =>
    obtain ⟨j, hj, rfl, hall, hb⟩ := hrel
    by_cases hlt : j < rr.allow.length
    · obtain ⟨g, q, hix, hg, c0, c1, c2⟩ := al_at HA.out.1 s2 hlt
      have hat := any_false_take (p := fun x => allowTo x (b1, b2) && D) hlt hall.out
      generalize rr.allow[j] = t at *
      have HX := Lib.hid (show ∀ y, Below Y.heap.size Y y → y.cell? ⟨R3, 1, none⟩ = some (.slice o2 rr.allow.length s2) ∧ (y.cell? ⟨R3, 2, none⟩ = some (.int .i64 rr.expr.kind) ∧ y.cell? ⟨R3, 3, none⟩ = some (.string rr.expr.ta) ∧ y.cell? ⟨R3, 4, none⟩ = some (.string rr.expr.tb) ∧ y.cell? ⟨R3, 5, none⟩ = some (.slice o3 rr.expr.kids.length s3)) ∧ (y.cell? ⟨w.heap.size + 2, 0, none⟩ = some (.string b1) ∧ y.cell? ⟨w.heap.size + 2, 1, none⟩ = some (.string b2)) ∧ y.cell? ⟨g, q, none⟩ = some (.string t.ty) ∧ y.cell? ⟨g, q + 1, none⟩ = some (.string t.rel) from fun y hy => by
        obtain ⟨-, k1, k2, k3, k4, k5⟩ := box6 ((hy.block _ (Array.getElem?_eq_some_iff.1 H1.out.2.2.2.2).1).trans H1.out.2.2.2.2)
        obtain ⟨f0, f1, -⟩ := box3 ((hy.block _ (Array.getElem?_eq_some_iff.1 H1.out.2.2.2.1).1).trans H1.out.2.2.2.1)
        exact ⟨k1, ⟨k2, k3, k4, k5⟩, ⟨f0, f1⟩, (hy.cell (p := ⟨g, q, none⟩) hg).trans c0, (hy.cell (p := ⟨g, q + 1, none⟩) hg).trans c1⟩)
      have HB := Lib.hid hb
      have HAT := Lib.hid hat
      clear hall hat hg c0 c1 c2 hb
      cases m1 : same t.ty b1 with
      | false =>
        have e1 : (t.ty.toList == b1.toList) = false := m1
        have HE := Lib.hid (HAT.out.2 (by rw [allowTo, m1, Bool.false_and, Bool.false_and]))
        clear m1 HAT
        go_wp2_with fail
        refine wp_region_class (C := fun y => Below Y.heap.size Y y) (by kernel_rfl) (by kernel_rfl) HB.out.drew ?_
        repeat (first
          | go_big_quiet_skip
          | (go_big_quiet_want
             apply quiet_of
             · intro y hy
               obtain ⟨i1, ⟨i2, i3, i4, i5⟩, ⟨i6, i7⟩, i8, i9⟩ := HX.out y hy
               first
                 | (go_simp; rfl)
                 | (clear i1 i2 i3 i4 i5 i6 i7 i8 i9; go_simp; go_at_call 36; with_reducible refine Calls.mono (HD.out y hy) ?_; rintro e y2 ⟨rfl, hy2⟩; exact ⟨rfl, hy.trans (hy2.mono hy.size)⟩)
             simp only [Act.put, List.setIfInBounds_toArray, List.set_cons_zero, List.set_cons_succ]
             go_big_quiet_on))
        refine wpQuiet_nil ?_
        intro y hy
        have HX2 := Lib.hid hy
        clear hy HX HB
        go_wp2_with fail
        go_roundw
        case rel => exact ⟨j + 1, by omega, by go_num, HE, HX2.out⟩
        case measure => simp [intOf]; omega
      | true =>
        have e1 : (t.ty.toList == b1.toList) = true := m1
        cases m2 : same t.rel b2 with
        | false =>
          have e2 : (t.rel.toList == b2.toList) = false := m2
          have HE := Lib.hid (HAT.out.2 (by rw [allowTo, m1, m2]; rfl))
          clear m1 m2 HAT
          go_wp2_with fail
          refine wp_region_class (C := fun y => Below Y.heap.size Y y) (by kernel_rfl) (by kernel_rfl) HB.out.drew ?_
          repeat (first
            | go_big_quiet_skip
            | (go_big_quiet_want
               apply quiet_of
               · intro y hy
                 obtain ⟨i1, ⟨i2, i3, i4, i5⟩, ⟨i6, i7⟩, i8, i9⟩ := HX.out y hy
                 first
                   | (go_simp; rfl)
                   | (clear i1 i2 i3 i4 i5 i6 i7 i8 i9; go_simp; go_at_call 36; with_reducible refine Calls.mono (HD.out y hy) ?_; rintro e y2 ⟨rfl, hy2⟩; exact ⟨rfl, hy.trans (hy2.mono hy.size)⟩)
               simp only [Act.put, List.setIfInBounds_toArray, List.set_cons_zero, List.set_cons_succ]
               go_big_quiet_on))
          refine wpQuiet_nil ?_
          intro y hy
          have HX2 := Lib.hid hy
          clear hy HX HB
          go_wp2_with fail
          go_roundw
          case rel => exact ⟨j + 1, by omega, by go_num, HE, HX2.out⟩
          case measure => simp [intOf]; omega
        | true =>
          have e2 : (t.rel.toList == b2.toList) = true := m2
          cases D with
          | false =>
            have HE := Lib.hid (HAT.out.2 (by rw [Bool.and_false]))
            clear m1 m2 HAT
            go_wp2_with fail
            refine wp_region_class (C := fun y => Below Y.heap.size Y y) (by kernel_rfl) (by kernel_rfl) HB.out.drew ?_
            repeat (first
              | go_big_quiet_skip
              | (go_big_quiet_want
                 apply quiet_of
                 · intro y hy
                   obtain ⟨i1, ⟨i2, i3, i4, i5⟩, ⟨i6, i7⟩, i8, i9⟩ := HX.out y hy
                   first
                     | (go_simp; rfl)
                     | (clear i1 i2 i3 i4 i5 i6 i7 i8 i9; go_simp; go_at_call 36; with_reducible refine Calls.mono (HD.out y hy) ?_; rintro e y2 ⟨rfl, hy2⟩; exact ⟨rfl, hy.trans (hy2.mono hy.size)⟩)
                 simp only [Act.put, List.setIfInBounds_toArray, List.set_cons_zero, List.set_cons_succ]
                 go_big_quiet_on))
            refine wpQuiet_nil ?_
            intro y hy
            have HX2 := Lib.hid hy
            clear hy HX HB
            go_wp2_with fail
            go_roundw
            case rel => exact ⟨j + 1, by omega, by go_num, HE, HX2.out⟩
            case measure => simp [intOf]; omega
          | true =>
            have hany := HAT.out.1 (by rw [allowTo, m1, m2]; rfl)
            have HE := Lib.hid (show hangs l (a1, a2) (b1, b2) odd = true by rw [HQ.out, hany, Bool.true_or])
            clear m1 m2 HAT hany
            go_wp2_with fail
            refine wp_region_class (C := fun y => Below Y.heap.size Y y) (by kernel_rfl) (by kernel_rfl) HB.out.drew ?_
            repeat (first
              | go_big_quiet_skip
              | (go_big_quiet_want
                 apply quiet_of
                 · intro y hy
                   obtain ⟨i1, ⟨i2, i3, i4, i5⟩, ⟨i6, i7⟩, i8, i9⟩ := HX.out y hy
                   first
                     | (go_simp; rfl)
                     | (clear i1 i2 i3 i4 i5 i6 i7 i8 i9; go_simp; go_at_call 36; with_reducible refine Calls.mono (HD.out y hy) ?_; rintro e y2 ⟨rfl, hy2⟩; exact ⟨rfl, hy.trans (hy2.mono hy.size)⟩)
                 simp only [Act.put, List.setIfInBounds_toArray, List.set_cons_zero, List.set_cons_succ]
                 go_big_quiet_on))
            refine wpQuiet_nil ?_
            intro y hy
            have HX2 := Lib.hid hy
            clear hy HX HB
            go_wp2_with fail
            go_ret
            exact ⟨by rw [HE.out]; rfl, H1.out.1.trans (HX2.out.mono H1.out.1.size)⟩
    · have hj' : j = rr.allow.length := by omega
      subst hj'
      have ha := hall.out
      rw [List.take_length] at ha
      have HQ2 := Lib.hid (show hangs l (a1, a2) (b1, b2) odd = (refs rr.expr false).any (refTo l (a1, a2) (b1, b2) odd) by rw [HQ.out, ha, Bool.false_or])
      have HRf := Lib.hid (rrefs_any (size rr.expr) rr.expr false _ wr (Nat.le_refl _) HS.out.1 (HA.out.2.below hb))
      have H2 := Lib.hid (And.intro (H1.out.1.trans (hb.mono H1.out.1.size)) (And.intro ((hb.block _ (Array.getElem?_eq_some_iff.1 H1.out.2.1).1).trans H1.out.2.1) (And.intro ((hb.block _ (Array.getElem?_eq_some_iff.1 H1.out.2.2.1).1).trans H1.out.2.2.1) ((hb.block _ (Array.getElem?_eq_some_iff.1 H1.out.2.2.2.1).1).trans H1.out.2.2.2.1))))
      obtain ⟨-, -, d2, d3, d4, d5⟩ := box6 ((hb.block _ (Array.getElem?_eq_some_iff.1 H1.out.2.2.2.2).1).trans H1.out.2.2.2.2)
      have hlen := Tr.refs_len rr.expr false
      have hlen2 : (refs rr.expr false).length ≤ 300 := by have := HS.out.1; omega
      clear ha hall hb HQ HD hlen
      go_wp2_with fail
      clear d2 d3 d4 d5
      refine HRf.out.mono ?_
      rintro e z ⟨rv, rfl, hrow, hx⟩
      obtain ⟨ro, rc, rfl⟩ := own_slice hrow
      have H3 := Lib.hid (And.intro (H2.out.1.trans (hx.mono H2.out.1.size)) (And.intro ((hx.block _ (Array.getElem?_eq_some_iff.1 H2.out.2.1).1).trans H2.out.2.1) (And.intro ((hx.block _ (Array.getElem?_eq_some_iff.1 H2.out.2.2.1).1).trans H2.out.2.2.1) (And.intro ((hx.block _ (Array.getElem?_eq_some_iff.1 H2.out.2.2.2).1).trans H2.out.2.2.2) hrow))))
      clear hx hrow HRf H2 H1
      generalize refs rr.expr false = rs at *
      go_wp2_with fail
      go_loopw [65] (fun i wr => ∃ j : Nat, j ≤ rs.length ∧ i = .int .i64 j ∧ Hid ((rs.take j).any (refTo l (a1, a2) (b1, b2) odd) = false) ∧ Below z.heap.size z wr) (fun i _ => rs.length - (intOf i).toNat)
      case atStart => exact ⟨0, by omega, rfl, Lib.hid rfl, Below.refl _ _⟩
      case round =>
        obtain ⟨j, hj, rfl, hall, hb⟩ := hrel
        by_cases hlt : j < rs.length
        · have hbw := H3.out.1.trans (hb.mono H3.out.1.size)
          obtain ⟨g, q, hix, hg, hc⟩ := rref_at (show RRefsAt _ wr _ rs from own_below H3.out.2.2.2.2 hb) hlt
          have hat := any_false_take (p := refTo l (a1, a2) (b1, b2) odd) hlt hall.out
          generalize rs[j] = x at *
          obtain ⟨via, rel, o⟩ := x
          have HX := Lib.hid (show ∀ y, Below wr.heap.size wr y → (y.cell? ⟨w.heap.size, 0, none⟩ = some (.slice ao l.length cap) ∧ y.cell? ⟨w.heap.size + 1, 0, none⟩ = some (.string a1)) ∧ (y.cell? ⟨w.heap.size + 2, 0, none⟩ = some (.string b1) ∧ y.cell? ⟨w.heap.size + 2, 1, none⟩ = some (.string b2)) ∧ y.cell? ⟨g, q, none⟩ = some (.string via) ∧ y.cell? ⟨g, q + 1, none⟩ = some (.string rel) ∧ y.cell? ⟨g, q + 2, none⟩ = some (.bool o) from fun y hy => by
            have hy2 : Below z.heap.size z y := hb.trans (hy.mono hb.size)
            obtain ⟨d0, d1, d2⟩ := hc.on hg hy
            obtain ⟨f0, f1, -⟩ := box3 ((hy2.block _ (Array.getElem?_eq_some_iff.1 H3.out.2.2.2.1).1).trans H3.out.2.2.2.1)
            exact ⟨⟨box1 ((hy2.block _ (Array.getElem?_eq_some_iff.1 H3.out.2.1).1).trans H3.out.2.1), (box3 ((hy2.block _ (Array.getElem?_eq_some_iff.1 H3.out.2.2.1).1).trans H3.out.2.2.1)).1⟩, ⟨f0, f1⟩, d0, d1, d2⟩)
          have HAT := Lib.hid hat
          have HB := Lib.hid (And.intro hb hbw)
          have HRO := Lib.hid (show refTo l (a1, a2) (b1, b2) odd ⟨via, rel, o⟩ = ((o == odd) && same rel b2 && viaTo l (a1, a2) (b1, b2) ⟨via, rel, o⟩) from rfl)
          clear hall hat hb hbw hg hc
          cases ho : (o == odd) with
          | false =>
            have ho2 : o = !odd := by revert ho; cases o <;> cases odd <;> decide
            have HE := Lib.hid (HAT.out.2 (by rw [HRO.out, ho, Bool.false_and, Bool.false_and]))
            clear ho HAT HRO
            subst ho2
            go_wp2_with fail
            refine wp_region_class (C := fun y => Below wr.heap.size wr y) (by kernel_rfl) (by kernel_rfl) (Below.refl _ _).drew ?_
            repeat (first
              | go_big_quiet_skip
              | (go_big_quiet_want
                 apply quiet_of
                 · intro y hy
                   obtain ⟨⟨i1, i2⟩, ⟨i3, i4⟩, i5, i6, i7⟩ := HX.out y hy
                   go_simp; rfl
                 simp only [Act.put, List.setIfInBounds_toArray, List.set_cons_zero, List.set_cons_succ]
                 go_big_quiet_on))
            refine wpQuiet_nil ?_
            intro y hy
            have HY := Lib.hid hy
            clear hy
            go_wp2_with fail
            go_roundw
            case rel => exact ⟨j + 1, by omega, by go_num, HE, HB.out.1.trans (HY.out.mono HB.out.1.size)⟩
            case measure => simp [intOf]; omega
          | true =>
            have ho2 : o = odd := by simpa using ho
            cases hr : same rel b2 with
            | false =>
              have e2 : (rel.toList == b2.toList) = false := hr
              have HE := Lib.hid (HAT.out.2 (by rw [HRO.out, hr, Bool.and_false, Bool.false_and]))
              clear ho hr HAT HRO
              subst ho2
              go_wp2_with fail
              refine wp_region_class (C := fun y => Below wr.heap.size wr y) (by kernel_rfl) (by kernel_rfl) (Below.refl _ _).drew ?_
              repeat (first
                | go_big_quiet_skip
                | (go_big_quiet_want
                   apply quiet_of
                   · intro y hy
                     obtain ⟨⟨i1, i2⟩, ⟨i3, i4⟩, i5, i6, i7⟩ := HX.out y hy
                     go_simp; rfl
                   simp only [Act.put, List.setIfInBounds_toArray, List.set_cons_zero, List.set_cons_succ]
                   go_big_quiet_on))
              refine wpQuiet_nil ?_
              intro y hy
              have HY := Lib.hid hy
              clear hy
              go_wp2_with fail
              go_roundw
              case rel => exact ⟨j + 1, by omega, by go_num, HE, HB.out.1.trans (HY.out.mono HB.out.1.size)⟩
              case measure => simp [intOf]; omega
            | true =>
              have e2 : (rel.toList == b2.toList) = true := hr
              rw [ho, hr, Bool.true_and, Bool.true_and] at HRO
              clear ho hr
              subst ho2
              go_wp2_with fail
              refine wp_region_class (C := fun y => Below wr.heap.size wr y) (by kernel_rfl) (by kernel_rfl) (Below.refl _ _).drew ?_
              repeat (first
                | go_big_quiet_skip
                | (go_big_quiet_want
                   apply quiet_of
                   · intro y hy
                     obtain ⟨⟨i1, i2⟩, ⟨i3, i4⟩, i5, i6, i7⟩ := HX.out y hy
                     go_simp; rfl
                   simp only [Act.put, List.setIfInBounds_toArray, List.set_cons_zero, List.set_cons_succ]
                   go_big_quiet_on))
              refine wpQuiet_nil ?_
              intro y hy
              have HY := Lib.hid hy
              clear hy
              obtain ⟨⟨i1, i2⟩, ⟨i3, i4⟩, i5, i6, i7⟩ := HX.out y HY.out
              cases hn : via.toList.isEmpty with
              | true =>
                cases hm : same b1 a1 with
                | true =>
                  have e3 : (b1.toList == a1.toList) = true := hm
                  have hany := HAT.out.1 (by rw [HRO.out, viaTo, if_pos hn]; exact hm)
                  have HE := Lib.hid (HQ2.out.trans hany)
                  clear hm hany HAT HRO
                  go_wp2_with fail
                  go_ret
                  exact ⟨by rw [HE.out]; rfl, HB.out.2.trans (HY.out.mono HB.out.2.size)⟩
                | false =>
                  have e3 : (b1.toList == a1.toList) = false := hm
                  have HE := Lib.hid (HAT.out.2 (by rw [HRO.out, viaTo, if_pos hn]; exact hm))
                  clear hm HAT HRO
                  go_wp2_with fail
                  go_roundw
                  case rel => exact ⟨j + 1, by omega, by go_num, HE, HB.out.1.trans (HY.out.mono HB.out.1.size)⟩
                  case measure => simp [intOf]; omega
              | false =>
                rw [show viaTo l (a1, a2) (b1, b2) ⟨via, rel, o⟩ = (typesP ((relC l a1 via).getD zR).allow).any fun t => same t b1 from by rw [viaTo, if_neg (by rw [hn]; decide)]] at HRO
                have hrb := fun y2 (hy2 : Below w.heap.size w y2) => rrelb_any l _ w y2 HC.out.1 hy2 a1 via
                have hsm2 := relC_small HC.out.2.1 HC.out.2.2 a1 via
                have HW := Lib.hid (HB.out.2.trans (HY.out.mono HB.out.2.size))
                generalize (relC l a1 via).isSome = hs at *
                generalize (relC l a1 via).getD zR = vr at *
                have HRB := Lib.hid hrb
                have HSM := Lib.hid hsm2
                clear hrb hsm2
                go_wp2_with fail
                clear i1 i2 i3 i4 i5 i6 i7 e2
                have HXY := Lib.hid (show ∀ x, Below y.heap.size y.drew x → (x.cell? ⟨w.heap.size, 0, none⟩ = some (.slice ao l.length cap) ∧ x.cell? ⟨w.heap.size + 1, 0, none⟩ = some (.string a1)) ∧ x.cell? ⟨g, q, none⟩ = some (.string via) from fun x hx => by
                  obtain ⟨j1, -, j2, -⟩ := HX.out x (HY.out.trans (((Below.refl _ _).drew.trans hx).mono HY.out.size))
                  exact ⟨j1, j2⟩)
                refine Order.region_begin (S := Below y.heap.size y.drew) (by kernel_rfl) ?_
                refine Order.reads_any (idx := [0, 1, 2, 3, 4, 5, 6, 7]) (by kernel_rfl) (Below.refl _ _) (fun _ _ _ _ _ h => Order.noPanic_put h) 7 _ _ (by decide +kernel) ?_
                simp only [Order.pick, List.getElem?_toArray, List.getElem?_cons_zero, List.getElem?_cons_succ]
                repeat (first
                  | (refine Order.reads_off (by rfl) ?_
                     simp only [Act.put, List.setIfInBounds_toArray, List.set_cons_zero, List.set_cons_succ])
                  | (apply Order.reads_on
                     · rfl
                     · intro x hx
                       first
                         | (go_simp; rfl)
                         | (obtain ⟨⟨i1, i2⟩, i3⟩ := HXY.out x hx
                            go_simp; rfl)
                     simp only [Act.put, List.setIfInBounds_toArray, List.set_cons_zero, List.set_cons_succ]))
                refine Order.reads_end ?_
                apply acts_two (R := Below y.heap.size) (fun h k => h.trans k) (i := 8) (j := 12)
                · rfl
                · rfl
                · decide +kernel
                · rfl
                · rfl
                · unfold Oper.wp
                  go_simp
                  refine Calls.mono (HRB.out _ (HW.out.trans ((Below.refl y.heap.size y).drew.mono HW.out.size))) ?_
                  rintro e y2 ⟨u, rfl, ⟨o4, s4, o5, s5, us4, rfl, hla, hnd⟩, hy⟩
                  have HV := Lib.hid (And.intro hla hnd)
                  clear hla hnd
                  refine ⟨hy, ?_⟩
                  refine Order.reads_any (idx := [9, 10, 11]) (by kernel_rfl) (Below.refl _ _) (fun _ _ _ _ _ h => Order.noPanic_put h) 3 _ _ (by decide +kernel) ?_
                  simp only [Order.pick, List.getElem?_toArray, List.getElem?_cons_zero, List.getElem?_cons_succ]
                  repeat (first
                    | (refine Order.reads_off (by rfl) ?_
                       simp only [Act.put, List.setIfInBounds_toArray, List.set_cons_zero, List.set_cons_succ])
                    | (apply Order.reads_on
                       · rfl
                       · intro x hx
                         first
                           | (go_simp; rfl)
                           | (fail
                              go_simp; rfl)
                       simp only [Act.put, List.setIfInBounds_toArray, List.set_cons_zero, List.set_cons_succ]))
                  refine Order.reads_end ?_
                  have al := Tr.fresh_one y2 (.cells #[.string ⟨#[]⟩, .slice none 0 0, .int .i64 0, .string ⟨#[]⟩, .string ⟨#[]⟩, .slice none 0 0] tRl)
                  have hk := heap_alloc_new y2 (.cells #[.string ⟨#[]⟩, .slice none 0 0, .int .i64 0, .string ⟨#[]⟩, .string ⟨#[]⟩, .slice none 0 0] tRl)
                  have HZ := Lib.hid (And.intro (hy.trans (al.mono hy.size)) (And.intro (Nat.le_trans (show y.heap.size ≤ y2.heap.size from hy.size) al.size) (And.intro (show y.heap.size ≤ y2.heap.size from hy.size) hk)))
                  have HAL := Lib.hid (show Below y.heap.size y2 (y2.alloc (.cells #[.string ⟨#[]⟩, .slice none 0 0, .int .i64 0, .string ⟨#[]⟩, .string ⟨#[]⟩, .slice none 0 0] tRl)) from al.mono hy.size)
                  clear al hk hy
                  apply Order.acts_any (R := (Below y.heap.size)) (fun h k => h.trans k) (i := 12)
                  · rfl
                  · decide +kernel
                  · rfl
                  unfold Oper.wp
                  go_simp
                  refine ⟨HAL.out, ?_⟩
                  clear HAL
                  generalize y2.alloc (.cells #[.string ⟨#[]⟩, .slice none 0 0, .int .i64 0, .string ⟨#[]⟩, .string ⟨#[]⟩, .slice none 0 0] tRl) = Z at *
                  generalize y2.heap.size = R5 at *
                  obtain ⟨k0, k1, k2, k3, k4, k5⟩ := box6 HZ.out.2.2.2
                  obtain ⟨f0, f1, f2, f3, f4, f5⟩ := free6 HZ.out.2.2.2
                  have htu := (set6_turns Z R5 (.string vr.name) (.slice o4 vr.allow.length s4) (.int .i64 vr.expr.kind) (.string vr.expr.ta) (.string vr.expr.tb) (.slice o5 vr.expr.kids.length s5)).below (B := y.heap.size) HZ.out.2.1 (fun k hk => by have := HZ.out.2.2.1; omega)
                  have HWW := Lib.hid (And.intro htu (And.intro (HZ.out.1.trans htu) (set6_heap HZ.out.2.2.2 (.string vr.name) (.slice o4 vr.allow.length s4) (.int .i64 vr.expr.kind) (.string vr.expr.ta) (.string vr.expr.tb) (.slice o5 vr.expr.kids.length s5))))
                  clear htu
                  apply Order.acts_any (R := (Below y.heap.size)) (fun h k => h.trans k) (i := 13)
                  · rfl
                  · decide +kernel
                  · rfl
                  unfold Oper.wp
                  go_simp
                  refine ⟨HWW.out.1, ?_⟩
                  clear k0 k1 k2 k3 k4 k5 f0 f1 f2 f3 f4 f5
                  refine Order.reads_any (idx := [14]) (by kernel_rfl) (Below.refl _ _) (fun _ _ _ _ _ h => Order.noPanic_put h) 0 _ _ (by decide +kernel) ?_
                  simp only [Order.pick, List.getElem?_toArray, List.getElem?_cons_zero, List.getElem?_cons_succ]
                  repeat (first
                    | (refine Order.reads_off (by rfl) ?_
                       simp only [Act.put, List.setIfInBounds_toArray, List.set_cons_zero, List.set_cons_succ])
                    | (apply Order.reads_on
                       · rfl
                       · intro x hx
                         first
                           | (go_simp; rfl)
                           | (fail
                              go_simp; rfl)
                       simp only [Act.put, List.setIfInBounds_toArray, List.set_cons_zero, List.set_cons_succ]))
                  refine Order.reads_end ?_
                  refine wpAnyH_done (by decide +kernel) ?_ _
                  refine NoPanic.normal ?_
                  change Exit.then _ _ _ _ (set6 Z R5 (.string vr.name) (.slice o4 vr.allow.length s4) (.int .i64 vr.expr.kind) (.string vr.expr.ta) (.string vr.expr.tb) (.slice o5 vr.expr.kids.length s5))
                  generalize set6 Z R5 (.string vr.name) (.slice o4 vr.allow.length s4) (.int .i64 vr.expr.kind) (.string vr.expr.ta) (.string vr.expr.tb) (.slice o5 vr.expr.kids.length s5) = F at *
                  have hbF : Below y.heap.size y F := (Below.refl _ _).drew.trans HWW.out.2.1
                  have hF1 := HW.out.trans (hbF.mono HW.out.size)
                  have hF2 := HY.out.trans (hbF.mono HY.out.size)
                  have HF := Lib.hid (And.intro hF1 (And.intro (HB.out.1.trans (hF2.mono HB.out.1.size)) hF2))
                  have HT := Lib.hid (rtypes_any vr (relV vr (.slice o4 vr.allow.length s4) (.slice o5 vr.expr.kids.length s5)) F ⟨o4, s4, o5, s5, us4, rfl, HV.out.1.on hF1 fun _ _ h => h, HV.out.2.below hF1⟩ HSM.out.2)
                  obtain ⟨k0, k1, k2, k3, k4, k5⟩ := box6 HWW.out.2.2
                  clear hbF hF1 hF2 HWW HZ HV
                  go_wp2_with fail
                  clear k0 k1 k2 k3 k4 k5
                  refine HT.out.mono ?_
                  rintro e F2 ⟨tv, rfl, hrow, hx⟩
                  obtain ⟨tq, tc, rfl⟩ := own_slice hrow
                  have HF2 := Lib.hid (And.intro (HF.out.1.trans (hx.mono HF.out.1.size)) (And.intro (HF.out.2.1.trans (hx.mono HF.out.2.1.size)) (And.intro (HF.out.2.2.trans (hx.mono HF.out.2.2.size)) hrow)))
                  have htl := typesP_len vr.allow
                  have htl2 : (typesP vr.allow).length ≤ 100000 := by have := HSM.out.2; omega
                  clear hx hrow HT HF htl
                  generalize typesP vr.allow = ts at *
                  go_wp2_with fail
                  go_loopw [120] (fun i wx => ∃ k : Nat, k ≤ ts.length ∧ i = .int .i64 k ∧ Hid ((ts.take k).any (fun t => same t b1) = false) ∧ Below F2.heap.size F2 wx) (fun i _ => ts.length - (intOf i).toNat)
                  case atStart => exact ⟨0, by omega, rfl, Lib.hid rfl, Below.refl _ _⟩
                  case round =>
                    obtain ⟨k, hk, rfl, hall, hb⟩ := hrel
                    by_cases hkt : k < ts.length
                    · obtain ⟨g2, q2, hix2, -, hg2, c0⟩ := str_at (StrRow.below (show StrRow _ F2 _ ts from HF2.out.2.2.2) hb) hkt
                      have hat := any_false_take (p := fun t => same t b1) hkt hall.out
                      generalize ts[k] = t at *
                      obtain ⟨-, ⟨i3, -⟩, -⟩ := HX.out _ (HF2.out.2.2.1.trans (hb.mono HF2.out.2.2.1.size))
                      have HB3 := Lib.hid hb
                      have HAT2 := Lib.hid hat
                      clear hat hall hb hg2
                      cases hm : same t b1 with
                      | true =>
                        have e3 : (t.toList == b1.toList) = true := hm
                        have hany := HAT.out.1 (by rw [HRO.out]; exact HAT2.out.1 hm)
                        have HE := Lib.hid (HQ2.out.trans hany)
                        clear hm hany
                        go_wp2_with fail
                        go_quiet (fail)
                        go_wp2_with fail
                        go_ret
                        exact ⟨by rw [HE.out]; rfl, below_drewN (HF2.out.1.trans (HB3.out.mono HF2.out.1.size)) _⟩
                      | false =>
                        have e3 : (t.toList == b1.toList) = false := hm
                        have HE := Lib.hid (HAT2.out.2 hm)
                        clear hm
                        go_wp2_with fail
                        go_quiet (fail)
                        go_wp2_with fail
                        go_roundw
                        case rel => exact ⟨k + 1, by omega, by go_num, HE, below_drewN HB3.out _⟩
                        case measure => simp [intOf]; omega
                    · have hk' : k = ts.length := by omega
                      subst hk'
                      have ha := hall.out
                      rw [List.take_length] at ha
                      have HE := Lib.hid (HAT.out.2 (by rw [HRO.out]; exact ha))
                      have HB3 := Lib.hid (HF2.out.2.1.trans (hb.mono HF2.out.2.1.size))
                      clear ha hall hb
                      go_wp2_with fail
                      go_roundw
                      case rel => exact ⟨j + 1, by omega, by go_num, HE, HB3.out⟩
                      case measure => simp [intOf]; omega
                · unfold Oper.wp
                  go_simp
                  have al : Below y.heap.size y.drew (y.alloc (.cells #[.string ⟨#[]⟩, .slice none 0 0, .int .i64 0, .string ⟨#[]⟩, .string ⟨#[]⟩, .slice none 0 0] tRl)).drew := ⟨rfl, rfl, rfl, (Tr.fresh_one y (.cells #[.string ⟨#[]⟩, .slice none 0 0, .int .i64 0, .string ⟨#[]⟩, .string ⟨#[]⟩, .slice none 0 0] tRl)).size, (Tr.fresh_one y (.cells #[.string ⟨#[]⟩, .slice none 0 0, .int .i64 0, .string ⟨#[]⟩, .string ⟨#[]⟩, .slice none 0 0] tRl)).block⟩
                  have hk : (y.alloc (.cells #[.string ⟨#[]⟩, .slice none 0 0, .int .i64 0, .string ⟨#[]⟩, .string ⟨#[]⟩, .slice none 0 0] tRl)).drew.heap[y.heap.size]? = _ := heap_alloc_new y (.cells #[.string ⟨#[]⟩, .slice none 0 0, .int .i64 0, .string ⟨#[]⟩, .string ⟨#[]⟩, .slice none 0 0] tRl)
                  refine ⟨al, ?_⟩
                  have hal : Below y.heap.size y (y.alloc (.cells #[.string ⟨#[]⟩, .slice none 0 0, .int .i64 0, .string ⟨#[]⟩, .string ⟨#[]⟩, .slice none 0 0] tRl)).drew := (Below.refl _ _).drew.trans al
                  have HK := Lib.hid (And.intro hk (And.intro hal al))
                  clear al hk hal
                  have HC2 := Lib.hid (HRB.out _ (HW.out.trans (HK.out.2.1.mono HW.out.size)))
                  generalize (y.alloc (.cells #[.string ⟨#[]⟩, .slice none 0 0, .int .i64 0, .string ⟨#[]⟩, .string ⟨#[]⟩, .slice none 0 0] tRl)).drew = Y5 at *
                  apply Order.acts_any (R := (Below y.heap.size)) (fun h k => h.trans k) (i := 8)
                  · rfl
                  · decide +kernel
                  · rfl
                  unfold Oper.wp
                  go_simp
                  refine Calls.mono HC2.out ?_
                  rintro e Z ⟨u, rfl, ⟨o4, s4, o5, s5, us4, rfl, hla, hnd⟩, hy⟩
                  have HV := Lib.hid (And.intro hla hnd)
                  clear hla hnd
                  refine ⟨hy.mono HK.out.2.1.size, ?_⟩
                  refine Order.reads_any (idx := [9, 10, 11]) (by kernel_rfl) (Below.refl _ _) (fun _ _ _ _ _ h => Order.noPanic_put h) 2 _ _ (by decide +kernel) ?_
                  simp only [Order.pick, List.getElem?_toArray, List.getElem?_cons_zero, List.getElem?_cons_succ]
                  repeat (first
                    | (refine Order.reads_off (by rfl) ?_
                       simp only [Act.put, List.setIfInBounds_toArray, List.set_cons_zero, List.set_cons_succ])
                    | (apply Order.reads_on
                       · rfl
                       · intro x hx
                         first
                           | (go_simp; rfl)
                           | (fail
                              go_simp; rfl)
                       simp only [Act.put, List.setIfInBounds_toArray, List.set_cons_zero, List.set_cons_succ]))
                  refine Order.reads_end ?_
                  have HZ := Lib.hid (And.intro (HK.out.2.2.trans (hy.mono HK.out.2.1.size)) (And.intro (Nat.le_trans HK.out.2.1.size hy.size) (And.intro (Nat.le_refl y.heap.size) ((hy.block _ (Array.getElem?_eq_some_iff.1 HK.out.1).1).trans HK.out.1))))
                  clear hy HK HC2
                  obtain ⟨k0, k1, k2, k3, k4, k5⟩ := box6 HZ.out.2.2.2
                  obtain ⟨f0, f1, f2, f3, f4, f5⟩ := free6 HZ.out.2.2.2
                  have htu := (set6_turns Z y.heap.size (.string vr.name) (.slice o4 vr.allow.length s4) (.int .i64 vr.expr.kind) (.string vr.expr.ta) (.string vr.expr.tb) (.slice o5 vr.expr.kids.length s5)).below (B := y.heap.size) HZ.out.2.1 (fun k hk => by have := HZ.out.2.2.1; omega)
                  have HWW := Lib.hid (And.intro htu (And.intro (HZ.out.1.trans htu) (set6_heap HZ.out.2.2.2 (.string vr.name) (.slice o4 vr.allow.length s4) (.int .i64 vr.expr.kind) (.string vr.expr.ta) (.string vr.expr.tb) (.slice o5 vr.expr.kids.length s5))))
                  clear htu
                  apply Order.acts_any (R := (Below y.heap.size)) (fun h k => h.trans k) (i := 13)
                  · rfl
                  · decide +kernel
                  · rfl
                  unfold Oper.wp
                  go_simp
                  refine ⟨HWW.out.1, ?_⟩
                  clear k0 k1 k2 k3 k4 k5 f0 f1 f2 f3 f4 f5
                  refine Order.reads_any (idx := [14]) (by kernel_rfl) (Below.refl _ _) (fun _ _ _ _ _ h => Order.noPanic_put h) 0 _ _ (by decide +kernel) ?_
                  simp only [Order.pick, List.getElem?_toArray, List.getElem?_cons_zero, List.getElem?_cons_succ]
                  repeat (first
                    | (refine Order.reads_off (by rfl) ?_
                       simp only [Act.put, List.setIfInBounds_toArray, List.set_cons_zero, List.set_cons_succ])
                    | (apply Order.reads_on
                       · rfl
                       · intro x hx
                         first
                           | (go_simp; rfl)
                           | (fail
                              go_simp; rfl)
                       simp only [Act.put, List.setIfInBounds_toArray, List.set_cons_zero, List.set_cons_succ]))
                  refine Order.reads_end ?_
                  refine wpAnyH_done (by decide +kernel) ?_ _
                  refine NoPanic.normal ?_
                  change Exit.then _ _ _ _ (set6 Z y.heap.size (.string vr.name) (.slice o4 vr.allow.length s4) (.int .i64 vr.expr.kind) (.string vr.expr.ta) (.string vr.expr.tb) (.slice o5 vr.expr.kids.length s5))
                  generalize set6 Z y.heap.size (.string vr.name) (.slice o4 vr.allow.length s4) (.int .i64 vr.expr.kind) (.string vr.expr.ta) (.string vr.expr.tb) (.slice o5 vr.expr.kids.length s5) = F at *
                  have hbF : Below y.heap.size y F := (Below.refl _ _).drew.trans HWW.out.2.1
                  have hF1 := HW.out.trans (hbF.mono HW.out.size)
                  have hF2 := HY.out.trans (hbF.mono HY.out.size)
                  have HF := Lib.hid (And.intro hF1 (And.intro (HB.out.1.trans (hF2.mono HB.out.1.size)) hF2))
                  have HT := Lib.hid (rtypes_any vr (relV vr (.slice o4 vr.allow.length s4) (.slice o5 vr.expr.kids.length s5)) F ⟨o4, s4, o5, s5, us4, rfl, HV.out.1.on hF1 fun _ _ h => h, HV.out.2.below hF1⟩ HSM.out.2)
                  obtain ⟨k0, k1, k2, k3, k4, k5⟩ := box6 HWW.out.2.2
                  clear hbF hF1 hF2 HWW HZ HV
                  go_wp2_with fail
                  clear k0 k1 k2 k3 k4 k5
                  refine HT.out.mono ?_
                  rintro e F2 ⟨tv, rfl, hrow, hx⟩
                  obtain ⟨tq, tc, rfl⟩ := own_slice hrow
                  have HF2 := Lib.hid (And.intro (HF.out.1.trans (hx.mono HF.out.1.size)) (And.intro (HF.out.2.1.trans (hx.mono HF.out.2.1.size)) (And.intro (HF.out.2.2.trans (hx.mono HF.out.2.2.size)) hrow)))
                  have htl := typesP_len vr.allow
                  have htl2 : (typesP vr.allow).length ≤ 100000 := by have := HSM.out.2; omega
                  clear hx hrow HT HF htl
                  generalize typesP vr.allow = ts at *
                  go_wp2_with fail
                  go_loopw [120] (fun i wx => ∃ k : Nat, k ≤ ts.length ∧ i = .int .i64 k ∧ Hid ((ts.take k).any (fun t => same t b1) = false) ∧ Below F2.heap.size F2 wx) (fun i _ => ts.length - (intOf i).toNat)
                  case atStart => exact ⟨0, by omega, rfl, Lib.hid rfl, Below.refl _ _⟩
                  case round =>
                    obtain ⟨k, hk, rfl, hall, hb⟩ := hrel
                    by_cases hkt : k < ts.length
                    · obtain ⟨g2, q2, hix2, -, hg2, c0⟩ := str_at (StrRow.below (show StrRow _ F2 _ ts from HF2.out.2.2.2) hb) hkt
                      have hat := any_false_take (p := fun t => same t b1) hkt hall.out
                      generalize ts[k] = t at *
                      obtain ⟨-, ⟨i3, -⟩, -⟩ := HX.out _ (HF2.out.2.2.1.trans (hb.mono HF2.out.2.2.1.size))
                      have HB3 := Lib.hid hb
                      have HAT2 := Lib.hid hat
                      clear hat hall hb hg2
                      cases hm : same t b1 with
                      | true =>
                        have e3 : (t.toList == b1.toList) = true := hm
                        have hany := HAT.out.1 (by rw [HRO.out]; exact HAT2.out.1 hm)
                        have HE := Lib.hid (HQ2.out.trans hany)
                        clear hm hany
                        go_wp2_with fail
                        go_quiet (fail)
                        go_wp2_with fail
                        go_ret
                        exact ⟨by rw [HE.out]; rfl, below_drewN (HF2.out.1.trans (HB3.out.mono HF2.out.1.size)) _⟩
                      | false =>
                        have e3 : (t.toList == b1.toList) = false := hm
                        have HE := Lib.hid (HAT2.out.2 hm)
                        clear hm
                        go_wp2_with fail
                        go_quiet (fail)
                        go_wp2_with fail
                        go_roundw
                        case rel => exact ⟨k + 1, by omega, by go_num, HE, below_drewN HB3.out _⟩
                        case measure => simp [intOf]; omega
                    · have hk' : k = ts.length := by omega
                      subst hk'
                      have ha := hall.out
                      rw [List.take_length] at ha
                      have HE := Lib.hid (HAT.out.2 (by rw [HRO.out]; exact ha))
                      have HB3 := Lib.hid (HF2.out.2.1.trans (hb.mono HF2.out.2.1.size))
                      clear ha hall hb
                      go_wp2_with fail
                      go_roundw
                      case rel => exact ⟨j + 1, by omega, by go_num, HE, HB3.out⟩
                      case measure => simp [intOf]; omega
        · have hj' : j = rs.length := by omega
          subst hj'
          have ha := hall.out
          rw [List.take_length] at ha
          have HE := Lib.hid (HQ2.out.trans ha)
          have HB := Lib.hid (H3.out.1.trans (hb.mono H3.out.1.size))
          clear ha hall hb
          go_wp2_with fail
          go_ret
          exact ⟨by rw [HE.out]; rfl, HB.out⟩
end Lt
end Go.Proofs.YtopncohhagebbaaGreatDoor

namespace Go.Proofs.YtopncohhagebbaaGreatDoor
open Go.RowKit
namespace Lt
open Tr (Nd IsNode node4 none0 size own_open own_slice own_below IsElem walk_rows)
open Gr (Al Rl Ty IsCf tCf box1 new_cells)
open Knot (Turns NewRow)
open Who (wp_region_class quiet_of)

theorem own_line {x : World} {C g n cap : Nat} {xs : List Value} {t : Nat → Int} (h : x.ownsRow C tIn 1 (.slice (some ⟨g, 0, none⟩) n cap) n xs) (ht : ∀ k, k < n → xs[k]? = some (.int .i64 (t k))) : C ≤ g ∧ Line x g n t := by
  rcases h.2 with ⟨h0, -⟩ | ⟨g', cap', cur, hv, hb, hg, hn, hcm, hcs, htk⟩
  · cases h0
  · obtain ⟨rfl, -⟩ : g = g' ∧ cap = cap' := by simpa using hv
    refine ⟨hb, cur, hg, fun k hk => ?_⟩
    have h1 := ht k hk
    rw [← htk, List.getElem?_take, if_pos (by omega)] at h1
    simpa using h1
def lineV (t : Nat → Int) (m : Nat) : List Value := (List.range m).map fun c => .int .i64 (t c)
theorem lineV_at (t : Nat → Int) {m k : Nat} (h : k < m) : (lineV t m)[k]? = some (.int .i64 (t k)) := by
  rw [lineV, List.getElem?_map, List.getElem?_range h]; rfl
theorem lineV_more (t : Nat → Int) (m : Nat) : lineV t (m + 1) = lineV t m ++ [.int .i64 (t m)] := by
  rw [lineV, List.range_succ, List.map_append]; rfl
theorem edge_at {l : List Ty} {Z : List (It × Int)} (hZ : Z = zr (items l)) {i k : Nat} (hi : i < Z.length) (hk : k < Z.length) : edge l i k = edgeI l Z[i].1 Z[k].1 := by
  subst hZ
  have h1 : (items l)[i]? = some (zr (items l))[i].1 := by
    rw [List.getElem?_eq_getElem (by rwa [zr_len] at hi)]
    simp [zr]
  have h2 : (items l)[k]? = some (zr (items l))[k].1 := by
    rw [List.getElem?_eq_getElem (by rwa [zr_len] at hk)]
    simp [zr]
  rw [edge, h1, h2]

set_option maxHeartbeats 32000000 in
set_option maxRecDepth 100000 in
theorem rways_any (l : List Ty) (v : Value) (w : World) (h : IsCf w l v) (hs : Scant l) (hz : Slim l) (hn : (items l).length ≤ 1000) :
    Calls Tryz.prog 74 #[v] w fun e y => ∃ u gs T, e = .returned u ∧ gs.length = (items l).length ∧ Rws w.heap.size y u (items l).length gs T ∧ Sound (items l).length ((items l).length + 1) (edge l) T ∧ Full (items l).length ((items l).length + 1) T ∧ Below w.heap.size w y := by
  have HC := Lib.hid (And.intro h (And.intro hs hz))
  obtain ⟨ao, cap, us, rfl, -⟩ := h
  have h0 := heap_alloc_new w (.cells #[.slice ao l.length cap] tCf)
  have al := Tr.fresh_one w (.cells #[.slice ao l.length cap] tCf)
  have HI := Lib.hid (ritems_any l _ _ (HC.out.1.below al) (Nat.le_trans hn (by decide)))
  have H0 := Lib.hid (And.intro al h0)
  have b0 := box1 h0
  clear al h0 hs hz
  go_enter Tryz.func74, Tryz.ntmps74
  go_wp2_with fail
  refine HI.out.mono ?_
  rintro e y1 ⟨u, rfl, hrow, hx⟩
  have hzl : (zr (items l)).length = (items l).length := zr_len _
  rw [← hzl] at hn
  generalize hZ : zr (items l) = Z at *
  have HZ := Lib.hid hZ.symm
  have HZL := Lib.hid hzl
  obtain ⟨lo, lc, rfl⟩ := own_slice hrow
  have H1 := Lib.hid (And.intro (H0.out.1.trans (hx.mono H0.out.1.size)) (And.intro ((hx.block _ (Array.getElem?_eq_some_iff.1 H0.out.2).1).trans H0.out.2) hrow))
  have HE0 := Lib.hid (fun i k (hi : i < Z.length) (hk : k < Z.length) => edge_at hZ.symm hi hk)
  clear hx hrow hZ hzl b0 HI H0
  go_wp2_with fail
  -- the steps
  go_loopw [5, 21] (fun ov i wr => ∃ (j : Nat) (gs : List (Nat × Nat)), j ≤ Z.length ∧ i = .int .i64 j ∧ gs.length = j ∧ Hid (Rws y1.heap.size wr ov Z.length gs (edge l) ∧ Below y1.heap.size y1 wr)) (fun _ i _ => Z.length - (intOf i).toNat)
  case atStart => exact ⟨0, [], by omega, rfl, rfl, Lib.hid ⟨Rws.nil _ _ _ _, Below.refl _ _⟩⟩
  case round =>
    obtain ⟨j, gs, hj, rfl, hgs, HJ⟩ := hrel
    obtain ⟨oo, oc, rfl⟩ := own_slice HJ.out.1.own
    have HGS := Lib.hid hgs
    clear hgs
    by_cases hlt : j < Z.length
    · obtain ⟨ga, qa, hixa, -, hga, ca0, ca1, ca2⟩ := it_at (show ItRow _ wr _ Z from own_below H1.out.2.2 HJ.out.2) hlt
      have HCA := Lib.hid (And.intro hga (And.intro ca0 (And.intro ca1 ca2)))
      have HED0 := Lib.hid (fun k hk => HE0.out j k hlt hk)
      generalize Z[j] = a at *
      clear hga ca0 ca1 ca2
      go_wp2_with fail
      go_loopw [7, 26] (fun rv k wr2 => ∃ m : Nat, m ≤ Z.length ∧ k = .int .i64 m ∧ Hid (wr2.ownsRow wr.heap.size tIn 1 rv m (lineV (edge l j) m) ∧ Below wr.heap.size wr wr2)) (fun _ k _ => Z.length - (intOf k).toNat)
      case atStart => exact ⟨0, by omega, rfl, Lib.hid ⟨World.ownsRow_nil _ _ _ _, Below.refl _ _⟩⟩
      case round =>
        obtain ⟨m, hm, rfl, HK⟩ := hrel
        obtain ⟨ro, rc, rfl⟩ := own_slice HK.out.1
        by_cases hmt : m < Z.length
        · have hb1 := HJ.out.2.trans (HK.out.2.mono HJ.out.2.size)
          obtain ⟨gb, qb, hixb, -, hgb, cb0, cb1, cb2⟩ := it_at (show ItRow _ wr _ Z from own_below H1.out.2.2 hb1) hmt
          have hed := HED0.out m hmt
          generalize Z[m] = b at *
          have HX := Lib.hid (show ∀ y, Below wr.heap.size wr y → y.cell? ⟨w.heap.size, 0, none⟩ = some (.slice ao l.length cap) ∧ (y.cell? ⟨ga, qa, none⟩ = some (.string a.1.1) ∧ y.cell? ⟨ga, qa + 1, none⟩ = some (.string a.1.2) ∧ y.cell? ⟨ga, qa + 2, none⟩ = some (.int .i64 a.2)) ∧ y.cell? ⟨gb, qb, none⟩ = some (.string b.1.1) ∧ y.cell? ⟨gb, qb + 1, none⟩ = some (.string b.1.2) ∧ y.cell? ⟨gb, qb + 2, none⟩ = some (.int .i64 b.2) from fun y hy => by
            have hy0 := HK.out.2.trans (hy.mono HK.out.2.size)
            have hy1 := HJ.out.2.trans (hy0.mono HJ.out.2.size)
            exact ⟨box1 ((hy1.block _ (Array.getElem?_eq_some_iff.1 H1.out.2.1).1).trans H1.out.2.1), ⟨(hy0.cell (p := ⟨ga, qa, none⟩) HCA.out.1).trans HCA.out.2.1, (hy0.cell (p := ⟨ga, qa + 1, none⟩) HCA.out.1).trans HCA.out.2.2.1, (hy0.cell (p := ⟨ga, qa + 2, none⟩) HCA.out.1).trans HCA.out.2.2.2⟩, (hy.cell (p := ⟨gb, qb, none⟩) hgb).trans cb0, (hy.cell (p := ⟨gb, qb + 1, none⟩) hgb).trans cb1, (hy.cell (p := ⟨gb, qb + 2, none⟩) hgb).trans cb2⟩)
          have HW := Lib.hid (H1.out.1.trans (hb1.mono H1.out.1.size))
          have HH0 := Lib.hid (fun y (hy : Below wr.heap.size wr y) => rhangs_any l _ y (HC.out.1.below (HW.out.trans (hy.mono HW.out.size))) HC.out.2.1 HC.out.2.2 a.1 b.1 a.2 b.2 false)
          have HH1 := Lib.hid (fun y (hy : Below wr.heap.size wr y) => rhangs_any l _ y (HC.out.1.below (HW.out.trans (hy.mono HW.out.size))) HC.out.2.1 HC.out.2.2 a.1 b.1 a.2 b.2 true)
          clear hb1 hgb cb0 cb1 cb2
          have hmz : m ≤ 1000 := by omega
          cases he : hangs l a.1 b.1 false with
          | false =>
            rw [he] at HH0
            cases ho : hangs l a.1 b.1 true with
            | false =>
              rw [ho] at HH1
              have HED := Lib.hid (show edge l j m = -1 by rw [hed, edgeI, ho, he]; rfl)
              clear he ho hed
              go_wp2_with fail
              refine Order.region_begin (S := Below wr.heap.size wr.drew) (by kernel_rfl) ?_
              refine Order.reads_any (idx := [0, 1, 2, 3, 4, 5, 6, 7, 8]) (by kernel_rfl) (Below.refl _ _) (fun _ _ _ _ _ h => Order.noPanic_put h) 1 _ _ (by decide +kernel) ?_
              simp only [Order.pick, List.getElem?_toArray, List.getElem?_cons_zero, List.getElem?_cons_succ]
              repeat (first
                | (refine Order.reads_off (by rfl) ?_
                   simp only [Act.put, List.setIfInBounds_toArray, List.set_cons_zero, List.set_cons_succ])
                | (apply Order.reads_on
                   · rfl
                   · intro x hx
                     first
                       | (go_simp; rfl)
                       | (obtain ⟨i1, ⟨i2, i3, i4⟩, i5, i6, i7⟩ := HX.out x ((Below.refl _ _).drew.trans hx)
                          go_simp; rfl)
                   simp only [Act.put, List.setIfInBounds_toArray, List.set_cons_zero, List.set_cons_succ]))
              refine Order.reads_end ?_
              apply Order.acts_any (R := (Below wr.heap.size)) (fun h k => h.trans k) (i := 9)
              · rfl
              · decide +kernel
              · rfl
              unfold Oper.wp
              go_simp
              refine Calls.mono (HH0.out _ ((Below.refl _ _).drew)) ?_
              rintro e y ⟨rfl, hy⟩
              refine ⟨hy, ?_⟩
              refine wpAnyH_done (by decide +kernel) ?_ _
              refine NoPanic.normal ?_
              have HY1 := Lib.hid (show Below wr.heap.size wr y from (Below.refl _ _).drew.trans hy)
              clear hy HH0
              go_wp2_with fail
              refine Order.region_begin (S := Below y.heap.size y.drew) (by kernel_rfl) ?_
              refine Order.reads_any (idx := [0, 1, 2, 3, 4, 5, 6, 7, 8]) (by kernel_rfl) (Below.refl _ _) (fun _ _ _ _ _ h => Order.noPanic_put h) 1 _ _ (by decide +kernel) ?_
              simp only [Order.pick, List.getElem?_toArray, List.getElem?_cons_zero, List.getElem?_cons_succ]
              repeat (first
                | (refine Order.reads_off (by rfl) ?_
                   simp only [Act.put, List.setIfInBounds_toArray, List.set_cons_zero, List.set_cons_succ])
                | (apply Order.reads_on
                   · rfl
                   · intro x hx
                     first
                       | (go_simp; rfl)
                       | (obtain ⟨i1, ⟨i2, i3, i4⟩, i5, i6, i7⟩ := HX.out x (HY1.out.trans (((Below.refl _ _).drew.trans hx).mono HY1.out.size))
                          go_simp; rfl)
                   simp only [Act.put, List.setIfInBounds_toArray, List.set_cons_zero, List.set_cons_succ]))
              refine Order.reads_end ?_
              apply Order.acts_any (R := (Below y.heap.size)) (fun h k => h.trans k) (i := 9)
              · rfl
              · decide +kernel
              · rfl
              unfold Oper.wp
              go_simp
              refine Calls.mono (HH1.out _ (HY1.out.trans ((Below.refl _ _).drew.mono HY1.out.size))) ?_
              rintro e z ⟨rfl, hy⟩
              refine ⟨hy, ?_⟩
              refine wpAnyH_done (by decide +kernel) ?_ _
              refine NoPanic.normal ?_
              have HY2 := Lib.hid (HY1.out.trans ((show Below y.heap.size y z from (Below.refl _ _).drew.trans hy).mono HY1.out.size))
              clear hy HH1 HY1
              go_upto_region 16 with fail
              have al := Tr.fresh_one z (.cells #[.int .i64 (-1)] tIn)
              have HJ2 := Lib.hid (And.intro (own_below HK.out.1 (HY2.out.trans (al.mono HY2.out.size))) (HK.out.2.trans ((HY2.out.trans (al.mono HY2.out.size)).mono HK.out.2.size)))
              obtain ⟨ti, tz, tb, TE, hT⟩ := ints_elem
              have HTE := Lib.hid (And.intro TE hT)
              have HSZ := Lib.hid (Nat.le_trans HK.out.2.size (Nat.le_trans HY2.out.size al.size))
              clear al TE hT
              go_wp2_with (at_builtin; refine walk_rows HTE.out.1 rfl _ _ rfl rfl rfl HJ2.out.1 HSZ.out (m := 1) rfl (new_cells _ _ [.int .i64 (-1)] (by simp)) (by intro u' hu'; simp at hu'; subst hu'; rfl) (by omega) (Nat.le_trans (Nat.mul_le_mul_left _ HTE.out.2) (by omega)) ?_)
              intro v2 z2 r2 gr2 n2
              have HR2 := Lib.hid (And.intro r2 (HJ2.out.2.grown gr2 HSZ.out fun k hk => (World.ownsRow.lt HJ2.out.1 k hk).1))
              clear r2 gr2 n2 HJ2
              go_wp2_with fail
              go_roundw
              case rel => exact ⟨m + 1, by omega, by go_num, Lib.hid ⟨by rw [lineV_more, HED.out]; exact HR2.out.1, HR2.out.2⟩⟩
              case measure => simp [intOf]; omega
            | true =>
              rw [ho] at HH1
              have HED := Lib.hid (show edge l j m = 1 by rw [hed, edgeI, ho]; rfl)
              clear he ho hed
              go_wp2_with fail
              refine Order.region_begin (S := Below wr.heap.size wr.drew) (by kernel_rfl) ?_
              refine Order.reads_any (idx := [0, 1, 2, 3, 4, 5, 6, 7, 8]) (by kernel_rfl) (Below.refl _ _) (fun _ _ _ _ _ h => Order.noPanic_put h) 1 _ _ (by decide +kernel) ?_
              simp only [Order.pick, List.getElem?_toArray, List.getElem?_cons_zero, List.getElem?_cons_succ]
              repeat (first
                | (refine Order.reads_off (by rfl) ?_
                   simp only [Act.put, List.setIfInBounds_toArray, List.set_cons_zero, List.set_cons_succ])
                | (apply Order.reads_on
                   · rfl
                   · intro x hx
                     first
                       | (go_simp; rfl)
                       | (obtain ⟨i1, ⟨i2, i3, i4⟩, i5, i6, i7⟩ := HX.out x ((Below.refl _ _).drew.trans hx)
                          go_simp; rfl)
                   simp only [Act.put, List.setIfInBounds_toArray, List.set_cons_zero, List.set_cons_succ]))
              refine Order.reads_end ?_
              apply Order.acts_any (R := (Below wr.heap.size)) (fun h k => h.trans k) (i := 9)
              · rfl
              · decide +kernel
              · rfl
              unfold Oper.wp
              go_simp
              refine Calls.mono (HH0.out _ ((Below.refl _ _).drew)) ?_
              rintro e y ⟨rfl, hy⟩
              refine ⟨hy, ?_⟩
              refine wpAnyH_done (by decide +kernel) ?_ _
              refine NoPanic.normal ?_
              have HY1 := Lib.hid (show Below wr.heap.size wr y from (Below.refl _ _).drew.trans hy)
              clear hy HH0
              go_wp2_with fail
              refine Order.region_begin (S := Below y.heap.size y.drew) (by kernel_rfl) ?_
              refine Order.reads_any (idx := [0, 1, 2, 3, 4, 5, 6, 7, 8]) (by kernel_rfl) (Below.refl _ _) (fun _ _ _ _ _ h => Order.noPanic_put h) 1 _ _ (by decide +kernel) ?_
              simp only [Order.pick, List.getElem?_toArray, List.getElem?_cons_zero, List.getElem?_cons_succ]
              repeat (first
                | (refine Order.reads_off (by rfl) ?_
                   simp only [Act.put, List.setIfInBounds_toArray, List.set_cons_zero, List.set_cons_succ])
                | (apply Order.reads_on
                   · rfl
                   · intro x hx
                     first
                       | (go_simp; rfl)
                       | (obtain ⟨i1, ⟨i2, i3, i4⟩, i5, i6, i7⟩ := HX.out x (HY1.out.trans (((Below.refl _ _).drew.trans hx).mono HY1.out.size))
                          go_simp; rfl)
                   simp only [Act.put, List.setIfInBounds_toArray, List.set_cons_zero, List.set_cons_succ]))
              refine Order.reads_end ?_
              apply Order.acts_any (R := (Below y.heap.size)) (fun h k => h.trans k) (i := 9)
              · rfl
              · decide +kernel
              · rfl
              unfold Oper.wp
              go_simp
              refine Calls.mono (HH1.out _ (HY1.out.trans ((Below.refl _ _).drew.mono HY1.out.size))) ?_
              rintro e z ⟨rfl, hy⟩
              refine ⟨hy, ?_⟩
              refine wpAnyH_done (by decide +kernel) ?_ _
              refine NoPanic.normal ?_
              have HY2 := Lib.hid (HY1.out.trans ((show Below y.heap.size y z from (Below.refl _ _).drew.trans hy).mono HY1.out.size))
              clear hy HH1 HY1
              go_upto_region 16 with fail
              have al := Tr.fresh_one z (.cells #[.int .i64 (1)] tIn)
              have HJ2 := Lib.hid (And.intro (own_below HK.out.1 (HY2.out.trans (al.mono HY2.out.size))) (HK.out.2.trans ((HY2.out.trans (al.mono HY2.out.size)).mono HK.out.2.size)))
              obtain ⟨ti, tz, tb, TE, hT⟩ := ints_elem
              have HTE := Lib.hid (And.intro TE hT)
              have HSZ := Lib.hid (Nat.le_trans HK.out.2.size (Nat.le_trans HY2.out.size al.size))
              clear al TE hT
              go_wp2_with (at_builtin; refine walk_rows HTE.out.1 rfl _ _ rfl rfl rfl HJ2.out.1 HSZ.out (m := 1) rfl (new_cells _ _ [.int .i64 (1)] (by simp)) (by intro u' hu'; simp at hu'; subst hu'; rfl) (by omega) (Nat.le_trans (Nat.mul_le_mul_left _ HTE.out.2) (by omega)) ?_)
              intro v2 z2 r2 gr2 n2
              have HR2 := Lib.hid (And.intro r2 (HJ2.out.2.grown gr2 HSZ.out fun k hk => (World.ownsRow.lt HJ2.out.1 k hk).1))
              clear r2 gr2 n2 HJ2
              go_wp2_with fail
              go_roundw
              case rel => exact ⟨m + 1, by omega, by go_num, Lib.hid ⟨by rw [lineV_more, HED.out]; exact HR2.out.1, HR2.out.2⟩⟩
              case measure => simp [intOf]; omega
          | true =>
            rw [he] at HH0
            cases ho : hangs l a.1 b.1 true with
            | false =>
              rw [ho] at HH1
              have HED := Lib.hid (show edge l j m = 0 by rw [hed, edgeI, ho, he]; rfl)
              clear he ho hed
              go_wp2_with fail
              refine Order.region_begin (S := Below wr.heap.size wr.drew) (by kernel_rfl) ?_
              refine Order.reads_any (idx := [0, 1, 2, 3, 4, 5, 6, 7, 8]) (by kernel_rfl) (Below.refl _ _) (fun _ _ _ _ _ h => Order.noPanic_put h) 1 _ _ (by decide +kernel) ?_
              simp only [Order.pick, List.getElem?_toArray, List.getElem?_cons_zero, List.getElem?_cons_succ]
              repeat (first
                | (refine Order.reads_off (by rfl) ?_
                   simp only [Act.put, List.setIfInBounds_toArray, List.set_cons_zero, List.set_cons_succ])
                | (apply Order.reads_on
                   · rfl
                   · intro x hx
                     first
                       | (go_simp; rfl)
                       | (obtain ⟨i1, ⟨i2, i3, i4⟩, i5, i6, i7⟩ := HX.out x ((Below.refl _ _).drew.trans hx)
                          go_simp; rfl)
                   simp only [Act.put, List.setIfInBounds_toArray, List.set_cons_zero, List.set_cons_succ]))
              refine Order.reads_end ?_
              apply Order.acts_any (R := (Below wr.heap.size)) (fun h k => h.trans k) (i := 9)
              · rfl
              · decide +kernel
              · rfl
              unfold Oper.wp
              go_simp
              refine Calls.mono (HH0.out _ ((Below.refl _ _).drew)) ?_
              rintro e y ⟨rfl, hy⟩
              refine ⟨hy, ?_⟩
              refine wpAnyH_done (by decide +kernel) ?_ _
              refine NoPanic.normal ?_
              have HY1 := Lib.hid (show Below wr.heap.size wr y from (Below.refl _ _).drew.trans hy)
              clear hy HH0
              go_wp2_with fail
              refine Order.region_begin (S := Below y.heap.size y.drew) (by kernel_rfl) ?_
              refine Order.reads_any (idx := [0, 1, 2, 3, 4, 5, 6, 7, 8]) (by kernel_rfl) (Below.refl _ _) (fun _ _ _ _ _ h => Order.noPanic_put h) 1 _ _ (by decide +kernel) ?_
              simp only [Order.pick, List.getElem?_toArray, List.getElem?_cons_zero, List.getElem?_cons_succ]
              repeat (first
                | (refine Order.reads_off (by rfl) ?_
                   simp only [Act.put, List.setIfInBounds_toArray, List.set_cons_zero, List.set_cons_succ])
                | (apply Order.reads_on
                   · rfl
                   · intro x hx
                     first
                       | (go_simp; rfl)
                       | (obtain ⟨i1, ⟨i2, i3, i4⟩, i5, i6, i7⟩ := HX.out x (HY1.out.trans (((Below.refl _ _).drew.trans hx).mono HY1.out.size))
                          go_simp; rfl)
                   simp only [Act.put, List.setIfInBounds_toArray, List.set_cons_zero, List.set_cons_succ]))
              refine Order.reads_end ?_
              apply Order.acts_any (R := (Below y.heap.size)) (fun h k => h.trans k) (i := 9)
              · rfl
              · decide +kernel
              · rfl
              unfold Oper.wp
              go_simp
              refine Calls.mono (HH1.out _ (HY1.out.trans ((Below.refl _ _).drew.mono HY1.out.size))) ?_
              rintro e z ⟨rfl, hy⟩
              refine ⟨hy, ?_⟩
              refine wpAnyH_done (by decide +kernel) ?_ _
              refine NoPanic.normal ?_
              have HY2 := Lib.hid (HY1.out.trans ((show Below y.heap.size y z from (Below.refl _ _).drew.trans hy).mono HY1.out.size))
              clear hy HH1 HY1
              go_upto_region 16 with fail
              have al := Tr.fresh_one z (.cells #[.int .i64 (0)] tIn)
              have HJ2 := Lib.hid (And.intro (own_below HK.out.1 (HY2.out.trans (al.mono HY2.out.size))) (HK.out.2.trans ((HY2.out.trans (al.mono HY2.out.size)).mono HK.out.2.size)))
              obtain ⟨ti, tz, tb, TE, hT⟩ := ints_elem
              have HTE := Lib.hid (And.intro TE hT)
              have HSZ := Lib.hid (Nat.le_trans HK.out.2.size (Nat.le_trans HY2.out.size al.size))
              clear al TE hT
              go_wp2_with (at_builtin; refine walk_rows HTE.out.1 rfl _ _ rfl rfl rfl HJ2.out.1 HSZ.out (m := 1) rfl (new_cells _ _ [.int .i64 (0)] (by simp)) (by intro u' hu'; simp at hu'; subst hu'; rfl) (by omega) (Nat.le_trans (Nat.mul_le_mul_left _ HTE.out.2) (by omega)) ?_)
              intro v2 z2 r2 gr2 n2
              have HR2 := Lib.hid (And.intro r2 (HJ2.out.2.grown gr2 HSZ.out fun k hk => (World.ownsRow.lt HJ2.out.1 k hk).1))
              clear r2 gr2 n2 HJ2
              go_wp2_with fail
              go_roundw
              case rel => exact ⟨m + 1, by omega, by go_num, Lib.hid ⟨by rw [lineV_more, HED.out]; exact HR2.out.1, HR2.out.2⟩⟩
              case measure => simp [intOf]; omega
            | true =>
              rw [ho] at HH1
              have HED := Lib.hid (show edge l j m = 1 by rw [hed, edgeI, ho]; rfl)
              clear he ho hed
              go_wp2_with fail
              refine Order.region_begin (S := Below wr.heap.size wr.drew) (by kernel_rfl) ?_
              refine Order.reads_any (idx := [0, 1, 2, 3, 4, 5, 6, 7, 8]) (by kernel_rfl) (Below.refl _ _) (fun _ _ _ _ _ h => Order.noPanic_put h) 1 _ _ (by decide +kernel) ?_
              simp only [Order.pick, List.getElem?_toArray, List.getElem?_cons_zero, List.getElem?_cons_succ]
              repeat (first
                | (refine Order.reads_off (by rfl) ?_
                   simp only [Act.put, List.setIfInBounds_toArray, List.set_cons_zero, List.set_cons_succ])
                | (apply Order.reads_on
                   · rfl
                   · intro x hx
                     first
                       | (go_simp; rfl)
                       | (obtain ⟨i1, ⟨i2, i3, i4⟩, i5, i6, i7⟩ := HX.out x ((Below.refl _ _).drew.trans hx)
                          go_simp; rfl)
                   simp only [Act.put, List.setIfInBounds_toArray, List.set_cons_zero, List.set_cons_succ]))
              refine Order.reads_end ?_
              apply Order.acts_any (R := (Below wr.heap.size)) (fun h k => h.trans k) (i := 9)
              · rfl
              · decide +kernel
              · rfl
              unfold Oper.wp
              go_simp
              refine Calls.mono (HH0.out _ ((Below.refl _ _).drew)) ?_
              rintro e y ⟨rfl, hy⟩
              refine ⟨hy, ?_⟩
              refine wpAnyH_done (by decide +kernel) ?_ _
              refine NoPanic.normal ?_
              have HY1 := Lib.hid (show Below wr.heap.size wr y from (Below.refl _ _).drew.trans hy)
              clear hy HH0
              go_wp2_with fail
              refine Order.region_begin (S := Below y.heap.size y.drew) (by kernel_rfl) ?_
              refine Order.reads_any (idx := [0, 1, 2, 3, 4, 5, 6, 7, 8]) (by kernel_rfl) (Below.refl _ _) (fun _ _ _ _ _ h => Order.noPanic_put h) 1 _ _ (by decide +kernel) ?_
              simp only [Order.pick, List.getElem?_toArray, List.getElem?_cons_zero, List.getElem?_cons_succ]
              repeat (first
                | (refine Order.reads_off (by rfl) ?_
                   simp only [Act.put, List.setIfInBounds_toArray, List.set_cons_zero, List.set_cons_succ])
                | (apply Order.reads_on
                   · rfl
                   · intro x hx
                     first
                       | (go_simp; rfl)
                       | (obtain ⟨i1, ⟨i2, i3, i4⟩, i5, i6, i7⟩ := HX.out x (HY1.out.trans (((Below.refl _ _).drew.trans hx).mono HY1.out.size))
                          go_simp; rfl)
                   simp only [Act.put, List.setIfInBounds_toArray, List.set_cons_zero, List.set_cons_succ]))
              refine Order.reads_end ?_
              apply Order.acts_any (R := (Below y.heap.size)) (fun h k => h.trans k) (i := 9)
              · rfl
              · decide +kernel
              · rfl
              unfold Oper.wp
              go_simp
              refine Calls.mono (HH1.out _ (HY1.out.trans ((Below.refl _ _).drew.mono HY1.out.size))) ?_
              rintro e z ⟨rfl, hy⟩
              refine ⟨hy, ?_⟩
              refine wpAnyH_done (by decide +kernel) ?_ _
              refine NoPanic.normal ?_
              have HY2 := Lib.hid (HY1.out.trans ((show Below y.heap.size y z from (Below.refl _ _).drew.trans hy).mono HY1.out.size))
              clear hy HH1 HY1
              go_upto_region 16 with fail
              have al := Tr.fresh_one z (.cells #[.int .i64 (1)] tIn)
              have HJ2 := Lib.hid (And.intro (own_below HK.out.1 (HY2.out.trans (al.mono HY2.out.size))) (HK.out.2.trans ((HY2.out.trans (al.mono HY2.out.size)).mono HK.out.2.size)))
              obtain ⟨ti, tz, tb, TE, hT⟩ := ints_elem
              have HTE := Lib.hid (And.intro TE hT)
              have HSZ := Lib.hid (Nat.le_trans HK.out.2.size (Nat.le_trans HY2.out.size al.size))
              clear al TE hT
              go_wp2_with (at_builtin; refine walk_rows HTE.out.1 rfl _ _ rfl rfl rfl HJ2.out.1 HSZ.out (m := 1) rfl (new_cells _ _ [.int .i64 (1)] (by simp)) (by intro u' hu'; simp at hu'; subst hu'; rfl) (by omega) (Nat.le_trans (Nat.mul_le_mul_left _ HTE.out.2) (by omega)) ?_)
              intro v2 z2 r2 gr2 n2
              have HR2 := Lib.hid (And.intro r2 (HJ2.out.2.grown gr2 HSZ.out fun k hk => (World.ownsRow.lt HJ2.out.1 k hk).1))
              clear r2 gr2 n2 HJ2
              go_wp2_with fail
              go_roundw
              case rel => exact ⟨m + 1, by omega, by go_num, Lib.hid ⟨by rw [lineV_more, HED.out]; exact HR2.out.1, HR2.out.2⟩⟩
              case measure => simp [intOf]; omega
        · have hm' : m = Z.length := by omega
          subst hm'
          obtain ⟨nm, hnm⟩ : ∃ k, Z.length = k + 1 := ⟨Z.length - 1, by omega⟩
          have hro := HK.out.1
          rw [hnm] at hro
          obtain ⟨g, rc', hv, -⟩ := own_open hro
          obtain ⟨rfl, rfl⟩ : ro = some ⟨g, 0, none⟩ ∧ rc = rc' := by simpa using hv
          have hline := own_line (t := edge l j) HK.out.1 fun k hk => lineV_at _ hk
          have hR1 := HJ.out.1.below HK.out.2
          have al := Tr.fresh_one wr (.cells #[.slice (some ⟨g, 0, none⟩) Z.length rc] tRo)
          have hlow : ∀ a ∈ gs, a.1 ≠ g := fun a ha e => by have := HJ.out.1.all_lt a ha; have := hline.1; omega
          have hfar : (Value.slice oo gs.length oc).ownBlock ≠ some g := fun e => by have := (World.ownsRow.lt HJ.out.1.own g e).2; have := hline.1; omega
          have hsz1 := HJ.out.2.size
          have HLn := Lib.hid (And.intro (hline.2.kept (al.block _ hline.2.lt)) (And.intro (Nat.le_trans hsz1 hline.1) (And.intro hlow hfar)))
          have HRw := Lib.hid (And.intro (hR1.below al) (HJ.out.2.trans ((HK.out.2.trans (al.mono HK.out.2.size)).mono hsz1)))
          have HSZ := Lib.hid (Nat.le_trans hsz1 (Nat.le_trans HK.out.2.size al.size))
          obtain ⟨ti, tz, tb, TE, hT⟩ := rows_elem
          have HTE := Lib.hid (And.intro TE hT)
          have hgl : gs.length ≤ 1000 := by have := HGS.out; omega
          clear hro hv hline hR1 al hlow hfar hsz1 TE hT hnm
          go_wp2_with (at_builtin; refine walk_rows HTE.out.1 rfl _ _ rfl rfl rfl HRw.out.1.own HSZ.out (m := 1) rfl (new_cells _ _ [.slice (some ⟨g, 0, none⟩) Z.length rc] (by simp)) (by intro u' hu'; simp at hu'; subst hu'; rfl) (by omega) (Nat.le_trans (Nat.mul_le_mul_left _ HTE.out.2) (by omega)) ?_)
          intro v2 z2 r2 gr2 n2
          have HM := Lib.hid (And.intro (Rws.more (g := (g, rc)) (t := edge l j) (T' := edge l) HRw.out.1 HLn.out.1 HLn.out.2.1 HLn.out.2.2.1 HLn.out.2.2.2 r2 gr2 n2 (fun i _ => rfl) (by rw [HGS.out])) (HRw.out.2.grown gr2 HSZ.out fun k hk => (World.ownsRow.lt HRw.out.1.own k hk).1))
          clear r2 gr2 n2 HRw HLn
          go_wp2_with fail
          go_roundw
          case rel => exact ⟨j + 1, gs ++ [(g, rc)], by omega, by go_num, by rw [List.length_append, HGS.out]; rfl, HM⟩
          case measure => simp [intOf]; omega
    have hj' : Z.length = j := by omega
    subst hj'
    have HST := Lib.hid (And.intro (Sound.start (n := Z.length) (N := Z.length + 1) (edge_cases l) (by omega)) (And.intro HJ.out.1 HJ.out.2))
    clear HJ hlt
    go_wp2_with fail
    go_loopg [10] (2 * ((Z.length + 1 + 1) * Z.length * Z.length - held Z.length (edge l)) + 1) (fun q ag wr => ∃ (T : Tbl) (b : Bool), ag = .bool b ∧ q = 2 * ((Z.length + 1 + 1) * Z.length * Z.length - held Z.length T) + (if b then 1 else 0) ∧ Hid (Sound Z.length (Z.length + 1) (edge l) T ∧ (b = false → Full Z.length (Z.length + 1) T) ∧ Rws y1.heap.size wr (.slice oo gs.length oc) Z.length gs T ∧ Below y1.heap.size y1 wr))
    case atStart => exact ⟨edge l, true, rfl, rfl, Lib.hid ⟨HST.out.1, fun h => (Bool.noConfusion h), HST.out.2.1, HST.out.2.2⟩⟩
    case round =>
      clear HST
      obtain ⟨T, b, rfl, rfl, HT⟩ := hrel
      cases b with
      | false =>
        have HF := Lib.hid (And.intro HT.out.1 (And.intro (HT.out.2.1 rfl) (And.intro (HT.out.2.2.1.mono H1.out.1.size) (H1.out.1.trans (HT.out.2.2.2.mono H1.out.1.size)))))
        clear HT
        go_wp2_with fail
        go_ret
        refine ⟨_, gs, T, rfl, by rw [← HZL.out]; exact HGS.out, ?_, ?_, ?_, HF.out.2.2.2⟩
        · rw [← HZL.out]; exact HF.out.2.2.1
        · rw [← HZL.out]; exact HF.out.1
        · rw [← HZL.out]; exact HF.out.2.1
      | true =>
        go_wp2_with fail
        go_loopw [10, 62] (fun ag i wr => ∃ (T1 : Tbl) (b : Bool) (j : Nat), ag = .bool b ∧ j ≤ Z.length ∧ i = .int .i64 j ∧ Hid ((T1, b) = looks (Z.length + 1) (pre Z.length j 0 0) (T, false) ∧ Sound Z.length (Z.length + 1) (edge l) T1 ∧ Rws y1.heap.size wr (.slice oo gs.length oc) Z.length gs T1 ∧ Below y1.heap.size y1 wr)) (fun _ i _ => Z.length - (intOf i).toNat)
        case atStart => exact ⟨T, false, 0, rfl, by omega, rfl, Lib.hid ⟨rfl, HT.out.1, HT.out.2.2⟩⟩
        case round =>
          obtain ⟨T1, b, j, rfl, hj, rfl, HL4⟩ := hrel
          by_cases hjt : j < Z.length
          · go_wp2_with fail
            go_loopw [10, 67] (fun ag i wr => ∃ (T1 : Tbl) (b : Bool) (k : Nat), ag = .bool b ∧ k ≤ Z.length ∧ i = .int .i64 k ∧ Hid ((T1, b) = looks (Z.length + 1) (pre Z.length j k 0) (T, false) ∧ Sound Z.length (Z.length + 1) (edge l) T1 ∧ Rws y1.heap.size wr (.slice oo gs.length oc) Z.length gs T1 ∧ Below y1.heap.size y1 wr)) (fun _ i _ => Z.length - (intOf i).toNat)
            case atStart => exact ⟨T1, b, 0, rfl, by omega, rfl, HL4⟩
            case round =>
              clear HL4
              obtain ⟨T1, b, k, rfl, hk, rfl, HL5⟩ := hrel
              by_cases hkt : k < Z.length
              · go_wp2_with fail
                go_loopw [10, 72] (fun ag i wr => ∃ (T1 : Tbl) (b : Bool) (m : Nat), ag = .bool b ∧ m ≤ Z.length ∧ i = .int .i64 m ∧ Hid ((T1, b) = looks (Z.length + 1) (pre Z.length j k m) (T, false) ∧ Sound Z.length (Z.length + 1) (edge l) T1 ∧ Rws y1.heap.size wr (.slice oo gs.length oc) Z.length gs T1 ∧ Below y1.heap.size y1 wr)) (fun _ i _ => Z.length - (intOf i).toNat)
                case atStart => exact ⟨T1, b, 0, rfl, by omega, rfl, HL5⟩
                case round =>
                  clear HL5
                  obtain ⟨T1, b, m, rfl, hm, rfl, HL6⟩ := hrel
                  by_cases hmt : m < Z.length
                  · have hjg : j < gs.length := by have := HGS.out; omega
                    have hmg : m < gs.length := by have := HGS.out; omega
                    obtain ⟨gA, gA', cA, iA, xA, lA, yA, zA, -, rfl, mA⟩ := HL6.out.2.2.1.at hjg hmt HGS.out
                    obtain ⟨gB, gB', cB, iB, xB, lB, yB, zB, -, rfl, mB⟩ := HL6.out.2.2.1.at hmg hkt HGS.out
                    obtain ⟨gC, gC', cC, iC, xC, -, yC, zC, -, rfl, mC⟩ := HL6.out.2.2.1.at hjg hkt HGS.out
                    have eAC : gA = gC := by
                      have h1 := iA wr
                      rw [iC wr] at h1
                      simpa using h1.symm
                    subst eAC
                    obtain rfl : cA = cC := by
                      rw [xA] at xC
                      simpa using xC
                    have HX := Lib.hid (show ∀ y, Below wr.heap.size wr y → y.cell? ⟨gA, j, none⟩ = some (.slice (some ⟨gs[j].1, 0, none⟩) Z.length cA) ∧ y.cell? ⟨gs[j].1, m, none⟩ = some (.int .i64 (T1 j m)) ∧ y.cell? ⟨gB, m, none⟩ = some (.slice (some ⟨gs[m].1, 0, none⟩) Z.length cB) ∧ y.cell? ⟨gs[m].1, k, none⟩ = some (.int .i64 (T1 m k)) ∧ y.cell? ⟨gs[j].1, k, none⟩ = some (.int .i64 (T1 j k)) from fun y hy =>
                      ⟨(hy.cell (p := ⟨gA, j, none⟩) lA).trans xA, (hy.cell (p := ⟨gs[j].1, m, none⟩) mA).trans zA, (hy.cell (p := ⟨gB, m, none⟩) lB).trans xB, (hy.cell (p := ⟨gs[m].1, k, none⟩) mB).trans zB, (hy.cell (p := ⟨gs[j].1, k, none⟩) mC).trans zC⟩)
                    have hb1 := sound_most HL6.out.2.1 hjt hmt
                    have hb2 := sound_most HL6.out.2.1 hmt hkt
                    have hb3 := sound_most HL6.out.2.1 hjt hkt
                    have hlk := looks_step HL6.out.1
                    have hstep := fun (h1 : 0 ≤ T1 j m) (h2 : 0 ≤ T1 m k) h3 => Sound.step HL6.out.2.1 hjt hkt hmt h1 h2 h3
                    have hlook : look (Z.length + 1) (T1, b) (j, k, m) = if better (Z.length + 1) T1 j k m then (put T1 j k (min (T1 j m + T1 m k) (Z.length + 1 : Nat)), true) else (T1, b) := rfl
                    have HLK := Lib.hid (And.intro hlk (And.intro hstep hlook))
                    clear hlk hstep hlook
                    by_cases p1 : 0 ≤ T1 j m
                    case neg =>
                      have e1 : decide ((0 : Int) ≤ T1 j m) = false := by simp; omega
                      have HE := Lib.hid (show (T1, b) = looks (Z.length + 1) (pre Z.length j k (m + 1)) (T, false) from by
                        have h := HLK.out.1
                        rwa [HLK.out.2.2, if_neg (fun hh => p1 hh.1)] at h)
                      obtain ⟨a1, a2, a3, a4, a5⟩ := HX.out wr (Below.refl _ _)
                      clear p1 HLK HX
                      go_wp2_with fail
                      go_roundw
                      case rel => exact ⟨T1, b, m + 1, rfl, by omega, by go_num, Lib.hid ⟨HE.out, HL6.out.2⟩⟩
                      case measure => simp [intOf]; omega
                    have e1 : decide ((0 : Int) ≤ T1 j m) = true := by simp; omega
                    by_cases p2 : 0 ≤ T1 m k
                    case neg =>
                      have e2 : decide ((0 : Int) ≤ T1 m k) = false := by simp; omega
                      have HE := Lib.hid (show (T1, b) = looks (Z.length + 1) (pre Z.length j k (m + 1)) (T, false) from by
                        have h := HLK.out.1
                        rwa [HLK.out.2.2, if_neg (fun hh => p2 hh.2.1)] at h)
                      obtain ⟨a1, a2, a3, a4, a5⟩ := HX.out wr (Below.refl _ _)
                      clear p1 p2 HLK HX
                      go_wp2_with fail
                      go_roundw
                      case rel => exact ⟨T1, b, m + 1, rfl, by omega, by go_num, Lib.hid ⟨HE.out, HL6.out.2⟩⟩
                      case measure => simp [intOf]; omega
                    have e2 : decide ((0 : Int) ≤ T1 m k) = true := by simp; omega
                    obtain ⟨a1, a2, a3, a4, a5⟩ := HX.out wr (Below.refl _ _)
                    go_wp2_with fail
                    clear a1 a2 a3 a4 a5
                    refine wp_region_class (C := fun y => Below wr.heap.size wr y) (by kernel_rfl) (by kernel_rfl) (Below.refl _ _).drew ?_
                    repeat (first
                      | go_big_quiet_skip
                      | (go_big_quiet_want
                         apply quiet_of
                         · intro y hy
                           obtain ⟨a1, a2, a3, a4, a5⟩ := HX.out y hy
                           go_simp; rfl
                         simp only [Act.put, List.setIfInBounds_toArray, List.set_cons_zero, List.set_cons_succ]
                         go_big_quiet_on))
                    refine wpQuiet_nil ?_
                    intro y hy
                    have w1 : IntKind.wrap .i64 (T1 j m + T1 m k) = T1 j m + T1 m k := by rw [IntKind.wrap_i64] <;> omega
                    have w2 : IntKind.wrap .i64 ((Z.length : Int) + 1) = (Z.length : Int) + 1 := by rw [IntKind.wrap_i64] <;> omega
                    rw [w1, w2]
                    have hc : ((Z.length + 1 : Nat) : Int) = (Z.length : Int) + 1 := by omega
                    have hstep := HLK.out.2.1 p1 p2
                    have hlook := HLK.out.2.2
                    have hlk := HLK.out.1
                    have hbet : better (Z.length + 1) T1 j k m ↔ T1 j k < min (T1 j m + T1 m k) ((Z.length + 1 : Nat) : Int) := ⟨fun h => h.2.2, fun h => ⟨p1, p2, h⟩⟩
                    have hXm : min (T1 j m + T1 m k) ((Z.length : Int) + 1) ≤ 1001 := by omega
                    rw [hc] at hstep hlook hbet
                    rw [hlook] at hlk
                    generalize min (T1 j m + T1 m k) ((Z.length : Int) + 1) = X at *
                    have hRy := HL6.out.2.2.1.below hy
                    have hBy := HL6.out.2.2.2.trans (hy.mono HL6.out.2.2.2.size)
                    obtain ⟨a1, a2, a3, a4, a5⟩ := HX.out y hy
                    have HS6 := Lib.hid HL6.out.2.1
                    clear w1 w2 hc hlook HLK HX HL6 hy p1 p2 e1 e2 a2 a3 a4
                    by_cases p3 : T1 j k < X
                    · rw [if_pos (hbet.2 p3)] at hlk
                      obtain ⟨gD, gD', cD, iD, xD, -, yD, zD, fD, rfl, -⟩ := hRy.at hjg hkt HGS.out
                      have HN := Lib.hid (And.intro hlk (And.intro (hstep p3) (And.intro (hRy.put (k := k) hjg HGS.out X) (hBy.trans (hRy.store_below (k := k) hjg hBy.size X)))))
                      have e3 : decide (T1 j k < X) = true := by simp; omega
                      clear hlk hstep hbet hRy hBy HS6 p3 xD iD yD zD
                      go_wp2_with fail
                      go_roundw
                      case rel => exact ⟨_, true, m + 1, rfl, by omega, by go_num, HN⟩
                      case measure => simp [intOf]; omega
                    · rw [if_neg (fun hh => p3 (hbet.1 hh))] at hlk
                      have HN := Lib.hid (And.intro hlk (And.intro HS6.out (And.intro hRy hBy)))
                      have e3 : decide (T1 j k < X) = false := by simp; omega
                      clear hlk hstep hbet hRy hBy HS6 p3
                      go_wp2_with fail
                      go_roundw
                      case rel => exact ⟨T1, b, m + 1, rfl, by omega, by go_num, HN⟩
                      case measure => simp [intOf]; omega
                  · have hm' : Z.length = m := by omega
                    subst hm'
                    have HE := Lib.hid (And.intro (HL6.out.1.trans (by rw [pre_row])) HL6.out.2)
                    clear HL6
                    go_wp2_with fail
                    go_roundw
                    case rel => exact ⟨T1, b, k + 1, rfl, by omega, by go_num, HE⟩
                    case measure => simp [intOf]; omega
              · have hk' : Z.length = k := by omega
                subst hk'
                have HE := Lib.hid (And.intro (HL5.out.1.trans (by rw [pre_all])) HL5.out.2)
                clear HL5
                go_wp2_with fail
                go_roundw
                case rel => exact ⟨T1, b, j + 1, rfl, by omega, by go_num, HE⟩
                case measure => simp [intOf]; omega
          · have hj' : Z.length = j := by omega
            subst hj'
            have he := HL4.out.1
            rw [pre_end] at he
            have hm1 := held_most HL4.out.2.1
            have hh := held_look (triples Z.length) (T, false) (fun t ht => triples_mem.1 ht) HT.out.1
            rw [← he] at hh
            cases b with
            | false =>
              have hst := looks_still (N := Z.length + 1) (triples Z.length) T (by rw [← he])
              have hT1 : T1 = T := by rw [← hst.1, ← he]
              subst hT1
              have HE := Lib.hid (And.intro HL4.out.2.1 (And.intro (looks_full (n := Z.length) (N := Z.length + 1) (w := T1) (by rw [← he])) (And.intro HL4.out.2.2.1 HL4.out.2.2.2)))
              clear HL4 he hst hh hm1 HT
              go_wp2_with fail
              go_roundg (2 * ((Z.length + 1 + 1) * Z.length * Z.length - held Z.length T1) + (if false then 1 else 0))
              case rel => exact ⟨T1, false, rfl, rfl, Lib.hid ⟨HE.out.1, fun _ => HE.out.2.1, HE.out.2.2⟩⟩
              case measure => simp
            | true =>
              have hlt2 : held Z.length T < held Z.length T1 := by
                rcases hh.2 rfl with h | h
                · cases h
                · exact h
              have HE := Lib.hid (And.intro HL4.out.2.1 (And.intro HL4.out.2.2.1 HL4.out.2.2.2))
              clear HL4 he hh HT
              go_wp2_with fail
              go_roundg (2 * ((Z.length + 1 + 1) * Z.length * Z.length - held Z.length T1) + (if true then 1 else 0))
              case rel => exact ⟨T1, true, rfl, rfl, Lib.hid ⟨HE.out.1, fun h => (Bool.noConfusion h), HE.out.2⟩⟩
              case measure => simp; omega
end Lt
end Go.Proofs.YtopncohhagebbaaGreatDoor
