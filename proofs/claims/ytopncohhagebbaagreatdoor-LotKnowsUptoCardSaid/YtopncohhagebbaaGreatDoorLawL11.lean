/-
  Layer 11: the statements LotFits and LotKnows, walked.
-/
import Derived.Test.YtopncohhagebbaaGreatDoorLoAwake
import Derived.Test.YtopncohhagebbaaGreatDoorLoQ
import Derived.Test.YtopncohhagebbaaGreatDoorMgMem
import Derived.RegionTactic
import Derived.BigRegion
namespace Go.Proofs.YtopncohhagebbaaGreatDoor
open Go.RowKit
namespace LawL11Fits
open Gr (Al Rl Ty IsCf tCf box1 box6)
open Cn (ShortC)
open Bond (L3)
open Who (bs)
open Lo

set_option maxHeartbeats 8000000 in
set_option maxRecDepth 100000 in
theorem walk (l : List Ty) (v : Value) (ts : List (L3 × L3)) (tv : Value) (w : World) (hn : IsCf w l v) (hs : ShortC l) (ha : ∀ t ∈ l, ∀ r ∈ t.rels, r.allow.length ≤ 281474976710656) (ht : IsTups w tv ts) (hf : ∀ p ∈ ts, Fits 4000000 p) (hl : ts.length ≤ 4000000) {a0 a1 : Addr} (hg : Gr.Glob a0 a1 w) :
    Calls Tryz.prog 6 #[v, tv] w fun e x => e = .returned (.bool true) ∧ Below w.heap.size w x := by
  have HA := Lib.hid (fun x (hx : Below w.heap.size w x) => awake_any (hg.below hx))
  have HS := Lib.hid (fun x (hx : Below w.heap.size w x) => sound_any l v x (hn.below hx) hs ha)
  have HF := Lib.hid (fun x (hx : Below w.heap.size w x) p => fit_any l v x (hn.below hx) p)
  have HR := Lib.hid (fun x (hx : Below w.heap.size w x) p hp => rfit_any l v x (hn.below hx) p (hf p hp))
  obtain ⟨tao, tc, rfl⟩ := ht.len
  have HU := Lib.hid (fun x (hx : Below w.heap.size w x) => unfit_any l v x (hn.below hx) ts tao tc (ht.below hx) (by omega))
  have HT := Lib.hid ht
  obtain ⟨ao, cap, us, rfl, -⟩ := hn
  have H0 := Lib.hid ((On.start w).new #[.slice ao l.length cap] tCf rfl)
  have HL := Lib.hid hl
  clear ht hs ha hf hg hl
  go_enter Tryz.func6, Tryz.ntmps6
  go_wp2_with fail
  refine (HA.out _ H0.out.below).mono ?_
  rintro e x1 ⟨rfl, hx⟩
  have H1 := Lib.hid (H0.out.step hx)
  clear hx
  have b0 := box1 H1.out.at0
  go_wp2_with fail
  refine (HS.out _ H1.out.below).mono ?_
  rintro e x2 ⟨b, rfl, hb, hx⟩
  have H2 := Lib.hid (H1.out.step hx)
  have HB := Lib.hid hb
  clear hx b0 hb H0 H1
  cases b with
  | false =>
    go_wp2_with fail
    refine (HA.out _ H2.out.below).mono ?_
    rintro e x3 ⟨rfl, hx⟩
    have H3 := Lib.hid (H2.out.step hx)
    clear hx
    go_wp2_with fail
    go_ret
    exact ⟨rfl, H3.out.below⟩
  | true =>
    have HSo := Lib.hid (HB.out rfl)
    have HEq := Lib.hid (fit_eq HSo.out.good.1)
    by_cases h60 : 60 < ts.length
    · have e60 : decide ((60 : Int) < (ts.length : Int)) = true := by simp; omega
      clear h60
      go_wp2_with fail
      refine (HA.out _ H2.out.below).mono ?_
      rintro e x3 ⟨rfl, hx⟩
      have H3 := Lib.hid (H2.out.step hx)
      clear hx
      go_wp2_with fail
      go_ret
      exact ⟨rfl, H3.out.below⟩
    · have e60 : decide ((60 : Int) < (ts.length : Int)) = false := by simp; omega
      have h60' : ts.length ≤ 60 := by omega
      clear h60
      go_wp2_with fail
      clear e60
      go_loopw [24, 5] (fun i f wr => ∃ (j : Nat) (z : Int), j ≤ ts.length ∧ i = .int .i64 j ∧ f = .int .i64 z ∧ Hid (Idx (fun p => fitP l p != 0) (ts.take j) z ∧ Below x2.heap.size x2 wr)) (fun i _ _ => ts.length - (intOf i).toNat)
      case atStart => exact ⟨0, -1, by omega, rfl, rfl, Lib.hid ⟨idx_nil _, Below.refl _ _⟩⟩
      case round =>
        obtain ⟨j, z, hj, rfl, rfl, HJ⟩ := hrel
        have hbw := (H2.out.step HJ.out.2)
        by_cases hlt : j < ts.length
        · obtain ⟨g, q, hix, hg, -, d0', d1', d2', d3', d4', d5'⟩ := HT.out.at hlt
          have d0 := (hbw.below.cell (p := ⟨g, q, none⟩) hg).trans d0'
          have d1 := (hbw.below.cell (p := ⟨g, q + 1, none⟩) hg).trans d1'
          have d2 := (hbw.below.cell (p := ⟨g, q + 2, none⟩) hg).trans d2'
          have d3 := (hbw.below.cell (p := ⟨g, q + 3, none⟩) hg).trans d3'
          have d4 := (hbw.below.cell (p := ⟨g, q + 4, none⟩) hg).trans d4'
          have d5 := (hbw.below.cell (p := ⟨g, q + 5, none⟩) hg).trans d5'
          have HX := Lib.hid (idx_next hlt HJ.out.1)
          have HM := Lib.hid (List.getElem_mem hlt)
          generalize ts[j] = p at *
          have HJ2 := Lib.hid (hbw.new #[.string (bs p.1.1), .string (bs p.1.2.1), .string (bs p.1.2.2), .string (bs p.2.1), .string (bs p.2.2.1), .string (bs p.2.2.2)] 57 rfl)
          have HBX := Lib.hid (HJ.out.2.trans ((Tr.fresh_one wr (.cells #[.string (bs p.1.1), .string (bs p.1.2.1), .string (bs p.1.2.2), .string (bs p.2.1), .string (bs p.2.2.1), .string (bs p.2.2.2)] 57)).mono HJ.out.2.size))
          clear hg d0' d1' d2' d3' d4' d5' hbw
          go_upto_region 7 with fail
          clear hix d0 d1 d2 d3 d4 d5
          generalize wr.alloc (.cells #[.string (bs p.1.1), .string (bs p.1.2.1), .string (bs p.1.2.2), .string (bs p.2.1), .string (bs p.2.2.1), .string (bs p.2.2.2)] 57) = X at *
          generalize wr.heap.size = RX at *
          obtain ⟨d0, d1, d2, d3, d4, d5⟩ := box6 HJ2.out.at0
          have b0 := box1 HJ2.out.at1
          go_wp2_with fail
          refine (HR.out _ HJ2.out.below p HM.out).mono ?_
          rintro e x4 ⟨rfl, hx⟩
          have HJ4 := Lib.hid (HJ2.out.step hx)
          have HBY := Lib.hid (HBX.out.trans (hx.mono HBX.out.size))
          clear hx d0 d1 d2 d3 d4 d5 b0
          obtain ⟨d0, d1, d2, d3, d4, d5⟩ := box6 HJ4.out.at0
          have b0 := box1 HJ4.out.at1
          have HF4 := Lib.hid (HF.out _ HJ4.out.below p)
          rw [HEq.out p] at HF4
          go_wp2_with fail
          refine HF4.out.mono ?_
          rintro e x5 ⟨rfl, hx⟩
          have HBZ := Lib.hid (HBY.out.trans (hx.mono HBY.out.size))
          clear hx d0 d1 d2 d3 d4 d5 b0 HF4
          generalize fitP l p = c at *
          cases hc : (c != 0) with
          | false =>
            rw [hc, Bool.false_and, if_neg (by decide)] at HX
            go_wp2_with fail
            go_roundw
            case rel => exact ⟨j + 1, z, by omega, by go_num, rfl, Lib.hid ⟨HX.out, HBZ.out⟩⟩
            case measure => simp [intOf]; omega
          | true =>
            rw [hc, Bool.true_and] at HX
            cases hz : decide (z < 0) with
            | false =>
              rw [hz, if_neg (by decide)] at HX
              go_wp2_with fail
              go_roundw
              case rel => exact ⟨j + 1, z, by omega, by go_num, rfl, Lib.hid ⟨HX.out, HBZ.out⟩⟩
              case measure => simp [intOf]; omega
            | true =>
              rw [hz, if_pos rfl] at HX
              go_wp2_with fail
              go_roundw
              case rel => exact ⟨j + 1, (j : Int), by omega, by go_num, rfl, Lib.hid ⟨HX.out, HBZ.out⟩⟩
              case measure => simp [intOf]; omega
        · have hj' : j = ts.length := by omega
          subst hj'
          have hi := HJ.out.1
          rw [List.take_length] at hi
          have HI := Lib.hid hi
          have HW := Lib.hid hbw
          have b0 := box1 hbw.at0
          clear hi hbw
          go_wp2_with fail
          refine (HU.out _ HW.out.below).mono ?_
          rintro e x6 ⟨z', rfl, hz, hx⟩
          have hz2 : z' = z := by
            have e : (fun p => fitB l p != 0) = fun p => fitP l p != 0 := funext fun p => by rw [HEq.out p]
            rw [e] at hz
            exact idx_one hz HI.out
          subst hz2
          have H6 := Lib.hid (HW.out.step hx)
          clear hx hz b0
          go_wp2_with fail
          go_ret
          exact ⟨by simp, H6.out.below⟩
end LawL11Fits
namespace LawL11Knows
open Tr (Nd none0)
open Gr (Al Rl Ty IsCf tCf tRl box1 box2 box6)
open Cn (ShortC)
open Bond (L3)
open Who (bs bs_size wp_region_class quiet_of)
open Lt (relC zR)
open Lo

set_option maxHeartbeats 8000000 in
set_option maxRecDepth 100000 in
theorem walk (l : List Ty) (v : Value) (p : L3 × L3) (w : World) (hn : IsCf w l v) (hs : ShortC l) (ha : ∀ t ∈ l, ∀ r ∈ t.rels, r.allow.length ≤ 281474976710656) (hf : Fits 4000000 p) {a0 a1 : Addr} (hg : Gr.Glob a0 a1 w) :
    Calls Tryz.prog 7 #[v, agg6 p] w fun e x => e = .returned (.bool true) ∧ Below w.heap.size w x := by
  have HA := Lib.hid (fun x (hx : Below w.heap.size w x) => awake_any (hg.below hx))
  have HS := Lib.hid (fun x (hx : Below w.heap.size w x) => sound_any l v x (hn.below hx) hs ha)
  have HR := Lib.hid (fun x (hx : Below w.heap.size w x) => Lt.rrel_any l v x (hn.below hx) (bs p.1.1) (bs p.1.2.2))
  have HK := Lib.hid (fun x (hx : Below w.heap.size w x) => known_any l v x (hn.below hx) (bs p.1.1) (bs p.1.2.1) (bs p.1.2.2) p.2)
  have HQ := Lib.hid (fun x (hx : Below w.heap.size w x) => rknown_any l v x (hn.below hx) (bs p.1.1) (bs p.1.2.1) (bs p.1.2.2) p.2 (by rw [bs_size]; exact hf.1.1) (by rw [bs_size]; exact hf.1.2.1) (by rw [bs_size]; exact hf.1.2.2) hf.2)
  have HD := Lib.hid (fun x (hx : Below w.heap.size w x) => direct_any l v x (hn.below hx) (bs p.1.1) (bs p.1.2.2))
  have HZ := Lib.hid (show (relC l (bs p.1.1) (bs p.1.2.2)).isSome = false → ((relC l (bs p.1.1) (bs p.1.2.2)).getD zR).allow.length = 0 from fun h => by
    cases hc : relC l (bs p.1.1) (bs p.1.2.2) with
    | none => rfl
    | some r => rw [hc] at h; cases h)
  generalize knownP l (bs p.1.1) (bs p.1.2.1) (bs p.1.2.2) p.2 = kn at *
  generalize (relC l (bs p.1.1) (bs p.1.2.2)).isSome = so at *
  generalize (relC l (bs p.1.1) (bs p.1.2.2)).getD zR = r at *
  obtain ⟨ao, cap, us, rfl, -⟩ := hn
  have H0 := Lib.hid (((On.start w).new #[.slice ao l.length cap] tCf rfl).new #[.string (bs p.1.1), .string (bs p.1.2.1), .string (bs p.1.2.2), .string (bs p.2.1), .string (bs p.2.2.1), .string (bs p.2.2.2)] 57 (n := w.heap.size + 1) (by simp))
  clear hs ha hf hg
  go_enter Tryz.func7, Tryz.ntmps7
  go_wp2_with fail
  refine (HA.out _ H0.out.below).mono ?_
  rintro e x1 ⟨rfl, hx⟩
  have H1 := Lib.hid (H0.out.step hx)
  clear hx
  have b0 := box1 H1.out.at1
  go_wp2_with fail
  refine (HS.out _ H1.out.below).mono ?_
  rintro e x2 ⟨b, rfl, -, hx⟩
  have H2 := Lib.hid (H1.out.step hx)
  clear hx b0 H0 H1
  cases b with
  | false =>
    go_wp2_with fail
    refine (HA.out _ H2.out.below).mono ?_
    rintro e x3 ⟨rfl, hx⟩
    have H3 := Lib.hid (H2.out.step hx)
    clear hx
    go_wp2_with fail
    go_ret
    exact ⟨rfl, H3.out.below⟩
  | true =>
    obtain ⟨c0, c1, c2, c3, c4, c5⟩ := box6 H2.out.at0
    have H3 := Lib.hid (H2.out.new #[.string (bs p.1.1), .string (bs p.1.2.1)] 63 rfl)
    go_upto_region 4 with fail
    clear c0 c1 c2 c3 c4 c5
    generalize x2.alloc (.cells #[.string (bs p.1.1), .string (bs p.1.2.1)] 63) = X at *
    generalize x2.heap.size = RO at *
    obtain ⟨c0, c1, c2, c3, c4, c5⟩ := box6 H3.out.at1
    have b0 := box1 H3.out.at2
    go_wp2_with fail
    refine (HR.out _ H3.out.below).mono ?_
    rintro e x4 ⟨z, rfl, hz, hx⟩
    obtain ⟨q0, qc, qn, qm, qs, rfl, -, -⟩ := hz
    have H4 := Lib.hid ((H3.out.step hx).new #[.string r.name, .slice q0 r.allow.length qc, .int .i64 r.expr.kind, .string r.expr.ta, .string r.expr.tb, .slice qn r.expr.kids.length qm] tRl rfl)
    clear hx c0 c1 c2 c3 c4 c5 b0
    go_upto_region 5 with fail
    generalize x4.alloc (.cells #[.string r.name, .slice q0 r.allow.length qc, .int .i64 r.expr.kind, .string r.expr.ta, .string r.expr.tb, .slice qn r.expr.kids.length qm] tRl) = Y at *
    generalize x4.heap.size = RR at *
    have HX := Lib.hid (show ∀ x, Below Y.heap.size Y x → On w _ x from fun x hx => H4.out.step hx)
    have HK5 := Lib.hid (fun x hx => HK.out x (HX.out x hx).below)
    have HQ5 := Lib.hid (fun x hx => HQ.out x (HX.out x hx).below)
    have HD5 := Lib.hid (fun x hx => HD.out x (HX.out x hx).below)
    have hpos : decide ((0 : Int) < (r.allow.length : Int)) = decide (0 < r.allow.length) := by simp
    have hkk : (kn == kn) = true := by simp
    have HPOS := Lib.hid (And.intro hpos hkk)
    clear hpos hkk
    generalize hdd : decide (0 < r.allow.length) = dd at *
    cases so with
    | false =>
      have hz := HZ.out rfl
      have hd : dd = false := by rw [← hdd, hz]; rfl
      subst hd
      clear hdd hz
      refine wp_region_class (C := fun x => Below Y.heap.size Y x) (by kernel_rfl) (by kernel_rfl) (Below.refl _ _).drew ?_
      repeat (first
        | go_big_quiet_skip
        | (go_big_quiet_want
           apply quiet_of
           · intro x hx
             obtain ⟨-, k1, -⟩ := box6 (HX.out x hx).at0
             obtain ⟨j0, j1⟩ := box2 (HX.out x hx).at1
             obtain ⟨c0, c1, c2, c3, c4, c5⟩ := box6 (HX.out x hx).at2
             have b0 := box1 (HX.out x hx).at3
             obtain ⟨p1, p2⟩ := HPOS.out
             first
               | (go_simp; rfl)
               | (clear k1 j0 j1 c0 c1 c2 c3 c4 c5 b0 p1 p2; go_simp; go_at_call 21; with_reducible refine Calls.mono (HK5.out x hx) ?_; rintro e y ⟨rfl, hy⟩; exact ⟨rfl, hx.trans (hy.mono hx.size)⟩)
               | (clear k1 j0 j1 c0 c1 c2 c3 c4 c5 b0 p1 p2; go_simp; go_at_call 22; with_reducible refine Calls.mono (HQ5.out x hx) ?_; rintro e y ⟨rfl, hy⟩; exact ⟨rfl, hx.trans (hy.mono hx.size)⟩)
               | (clear k1 j0 j1 c0 c1 c2 c3 c4 c5 b0 p1 p2; go_simp; go_at_call 23; with_reducible refine Calls.mono (HD5.out x hx) ?_; rintro e y ⟨rfl, hy⟩; exact ⟨rfl, hx.trans (hy.mono hx.size)⟩)
           simp only [Act.put, List.setIfInBounds_toArray, List.set_cons_zero, List.set_cons_succ]
           go_big_quiet_on))
      refine wpQuiet_nil ?_
      intro x hx
      have HF := Lib.hid ((HX.out x hx).below)
      clear hx
      go_wp2_with fail
      go_ret
      exact ⟨rfl, HF.out⟩
    | true =>
      clear hdd
      refine wp_region_class (C := fun x => Below Y.heap.size Y x) (by kernel_rfl) (by kernel_rfl) (Below.refl _ _).drew ?_
      repeat (first
        | go_big_quiet_skip
        | (go_big_quiet_want
           apply quiet_of
           · intro x hx
             obtain ⟨-, k1, -⟩ := box6 (HX.out x hx).at0
             obtain ⟨j0, j1⟩ := box2 (HX.out x hx).at1
             obtain ⟨c0, c1, c2, c3, c4, c5⟩ := box6 (HX.out x hx).at2
             have b0 := box1 (HX.out x hx).at3
             obtain ⟨p1, p2⟩ := HPOS.out
             first
               | (go_simp; rfl)
               | (clear k1 j0 j1 c0 c1 c2 c3 c4 c5 b0 p1 p2; go_simp; go_at_call 21; with_reducible refine Calls.mono (HK5.out x hx) ?_; rintro e y ⟨rfl, hy⟩; exact ⟨rfl, hx.trans (hy.mono hx.size)⟩)
               | (clear k1 j0 j1 c0 c1 c2 c3 c4 c5 b0 p1 p2; go_simp; go_at_call 22; with_reducible refine Calls.mono (HQ5.out x hx) ?_; rintro e y ⟨rfl, hy⟩; exact ⟨rfl, hx.trans (hy.mono hx.size)⟩)
               | (clear k1 j0 j1 c0 c1 c2 c3 c4 c5 b0 p1 p2; go_simp; go_at_call 23; with_reducible refine Calls.mono (HD5.out x hx) ?_; rintro e y ⟨rfl, hy⟩; exact ⟨rfl, hx.trans (hy.mono hx.size)⟩)
           simp only [Act.put, List.setIfInBounds_toArray, List.set_cons_zero, List.set_cons_succ]
           go_big_quiet_on))
      refine wpQuiet_nil ?_
      intro x hx
      have HF := Lib.hid ((HX.out x hx).below)
      clear hx
      go_wp2_with fail
      go_ret
      exact ⟨by simp; rw [← HPOS.out.1]; simp, HF.out⟩
end LawL11Knows
end Go.Proofs.YtopncohhagebbaaGreatDoor
