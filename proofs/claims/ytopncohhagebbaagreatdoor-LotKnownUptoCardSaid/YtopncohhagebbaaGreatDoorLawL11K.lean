/-
  Layer 11: the statement LotKnown, walked.
-/
import Derived.Test.YtopncohhagebbaaGreatDoorLoGrid
import Derived.Test.YtopncohhagebbaaGreatDoorLoAwake
import Derived.Test.YtopncohhagebbaaGreatDoorMgMem
import Derived.Test.YtopncohhagebbaaGreatDoorLgE
import Derived.RegionTactic
import Derived.BigRegion
import Derived.Deep.DeepCutAuto
namespace Go.Proofs.YtopncohhagebbaaGreatDoor
open Go.RowKit
namespace LawL11Known
open Tr (Nd none0 own_slice own_below)
open Gr (Al Rl Ty IsAl IsRl IsTy IsCf Lies ty_at rl_at al_at alV relV tyV tAl tRl tTy tCf box1 box2 box6 elT elR elA cellsV)
open Cn (ShortC box3)
open Bond (L3 kind3)
open Knot (Turns)
open Who (bs bs_list bs_size)
open Lt (same relC zR acts_two)
open Lo

set_option maxHeartbeats 16000000 in
set_option maxRecDepth 100000 in
theorem walk (l : List Ty) (v : Value) (p : L3 × L3) (m : Al) (w : World) (hn : IsCf w l v) (hs : ShortC l) (ha : ∀ t ∈ l, ∀ r ∈ t.rels, r.allow.length ≤ 281474976710655) (hf : Fits 4000000 p) (hm1 : m.ty.size ≤ maxLen) (hm2 : m.rel.size ≤ maxLen) {a0 a1 : Addr} (hg : Gr.Glob a0 a1 w) :
    Calls Tryz.prog 8 #[v, agg6 p, alV m] w fun e x => e = .returned (.bool true) ∧ Below w.heap.size w x := by
  have HA := Lib.hid (fun x (hx : Below w.heap.size w x) => awake_any (hg.below hx))
  have HS := Lib.hid (fun x (hx : Below w.heap.size w x) => sound_any l v x (hn.below hx) hs fun t ht r hr => Nat.le_trans (ha t ht r hr) (by omega))
  have HF := Lib.hid (fun x (hx : Below w.heap.size w x) => fit_any l v x (hn.below hx) p)
  have HK := Lib.hid (fun x (hx : Below w.heap.size w x) => known_any l v x (hn.below hx) (bs p.1.1) (bs p.1.2.1) (bs p.1.2.2) p.2)
  have HKi := Lib.hid (fun x => Who.kindR_any (bs p.2.1) (bs p.2.2.1) (bs p.2.2.2) x (by rw [bs_size]; exact hf.2.1) (by rw [bs_size]; exact hf.2.2.1) (by rw [bs_size]; exact hf.2.2.2))
  simp only [bs_list] at HKi
  rw [show Who.kind p.2.1 p.2.2.1 p.2.2.2 = kind3 p.2 from rfl] at HKi
  have HN := Lib.hid (fun x => Ref.name_any (bs p.1.2.2) x (by rw [bs_size]; exact hf.1.2.2))
  have HW := Lib.hid (fun v' x (hx : IsCf x (l.map (wideT (bs p.1.1) m)) v') => sound_any (l.map (wideT (bs p.1.1) m)) v' x hx (short_wide hs hm1 hm2) fun t ht r hr => Nat.le_trans (long_wide ha t ht r hr) (by omega))
  have HV := Lib.hid (fun v' x (hx : IsCf x (l.map (wideT (bs p.1.1) m)) v') => fit_any (l.map (wideT (bs p.1.1) m)) v' x hx p)
  have HFW := Lib.hid (fun h => fit_wide (l := l) (p := p) m h)
  have HKF := Lib.hid (fun hs h hk => known_of_fit (l := l) (p := p) hs h hk)
  have HFE := Lib.hid (fun h => fit_eq (l := l) h p)
  have HK3 := Lib.hid (show kind3 p.2 = 3 → knownP l (bs p.1.1) (bs p.1.2.1) (bs p.1.2.2) p.2 = 2 from fun h => by
    rw [knownP, h]
    cases (Gly.nameB (bs p.1.1).data.toList && Gly.idB (bs p.1.2.1).data.toList && Gly.nameB (bs p.1.2.2).data.toList) <;> rfl)
  have HG2 := Lib.hid (show fitP l p = 0 → Gly.nameB (bs p.1.2.2).data.toList = true from fun h => by
    have hg2 := (fit_parts h).1
    unfold Bond.goodB at hg2
    simp only [Bool.and_eq_true] at hg2
    rw [bs_list]
    exact hg2.1.2)
  obtain ⟨ao, cap, us, rfl, hl⟩ := hn
  have HL := Lib.hid hl
  have H0 := Lib.hid ((((On.start w).new #[.slice ao l.length cap] tCf rfl).new #[.string (bs p.1.1), .string (bs p.1.2.1), .string (bs p.1.2.2), .string (bs p.2.1), .string (bs p.2.2.1), .string (bs p.2.2.2)] 57 (n := w.heap.size + 1) (by simp)).new #[.string m.ty, .string m.rel, .bool m.wild] tAl (n := w.heap.size + 1 + 1) (by simp))
  clear hs ha hf hg hm1 hm2 hl
  go_enter Tryz.func8, Tryz.ntmps8
  go_wp2_with fail
  refine (HA.out _ H0.out.below).mono ?_
  rintro e x1 ⟨rfl, hx⟩
  have H1 := Lib.hid (H0.out.step hx)
  clear hx
  have b0 := box1 H1.out.at2
  go_wp2_with fail
  refine (HS.out _ H1.out.below).mono ?_
  rintro e x2 ⟨b, rfl, hb, hx⟩
  have H2 := Lib.hid (H1.out.step hx)
  have HB := Lib.hid hb
  clear hx b0 hb H0 H1
  cases b with
  | false =>
    go_wp2_with fail
    refine (HA.out _ H2.out.below).mono ?_
    rintro e x3 ⟨rfl, hx⟩
    have H3 := Lib.hid (H2.out.step hx)
    clear hx
    go_wp2_with fail
    go_ret
    exact ⟨rfl, H3.out.below⟩
  | true =>
    have HSo := Lib.hid (HB.out rfl)
    have b0 := box1 H2.out.at2
    obtain ⟨c0, c1, c2, c3, c4, c5⟩ := box6 H2.out.at1
    go_wp2_with fail
    refine (HF.out _ H2.out.below).mono ?_
    rintro e x3 ⟨rfl, hx⟩
    have H3 := Lib.hid (H2.out.step hx)
    clear hx b0 c0 c1 c2 c3 c4 c5 H2
    by_cases hc : fitB l p = 0
    case neg =>
      generalize fitB l p = c at *
      have e1 : (c != 0) = true := by simpa using hc
      clear hc
      go_wp2_with fail
      refine (HA.out _ H3.out.below).mono ?_
      rintro e x4 ⟨rfl, hx⟩
      have H4 := Lib.hid (H3.out.step hx)
      clear hx
      go_wp2_with fail
      go_ret
      exact ⟨rfl, H4.out.below⟩
    have HP0 := Lib.hid ((HFE.out HSo.out.good.1).symm.trans hc)
    have HW0 := Lib.hid (HFW.out hc)
    rw [hc]
    clear hc HB HF HS
    have b0 := box1 H3.out.at2
    obtain ⟨c0, c1, c2, c3, c4, c5⟩ := box6 H3.out.at1
    go_wp2_with fail
    refine (HK.out _ H3.out.below).mono ?_
    rintro e x4 ⟨rfl, hx⟩
    have H4 := Lib.hid (H3.out.step hx)
    clear hx b0 c0 c1 c2 c3 c4 c5 H3 HK
    obtain ⟨c0, c1, c2, c3, c4, c5⟩ := box6 H4.out.at1
    go_wp2_with fail
    refine (HKi.out _).mono ?_
    rintro e x5 ⟨rfl, hx⟩
    have H5 := Lib.hid (H4.out.step hx)
    clear hx c0 c1 c2 c3 c4 c5 H4 HKi
    by_cases hk : kind3 p.2 = 3
    · rw [HK3.out hk, hk]
      clear hk
      go_wp2_with fail
      go_ret
      exact ⟨rfl, H5.out.below⟩
    have e3 : (((kind3 p.2 : Nat) : Int) == 3) = false := by
      simpa using (by omega : ¬ ((kind3 p.2 : Nat) : Int) = 3)
    rw [HKF.out HSo.out HP0.out hk]
    clear hk HK3
    generalize ((kind3 p.2 : Nat) : Int) = kz at *
    have HN2 := Lib.hid (fun x => HN.out x)
    rw [HG2.out HP0.out] at HN2
    clear HN HG2 HKF HFE HFW HP0
    obtain ⟨-, hsc, -, -⟩ := Lt.few9_parts HSo.out.1
    have hn8 : l.length ≤ 300000 ∧ ∀ t ∈ l, t.rels.length ≤ 12 := by
      have hq := HSo.out.1
      rw [Lt.few9, Bool.and_eq_true, Bool.and_eq_true] at hq
      have := of_decide_eq_true hq.2.2
      exact ⟨by omega, fun t ht => of_decide_eq_true (List.all_eq_true.1 hq.1 t ht)⟩
    have HFew := Lib.hid (And.intro hn8 hsc)
    clear hsc hn8
    go_upto_region 6 with fail
    have alE := Tr.fresh_one x5 (.cells #[] tTy)
    have hkE := heap_alloc_new x5 (.cells #[] tTy)
    have hOE := H5.out.step alE
    have b0 := box1 hOE.at2
    have HO := Lib.hid (show (x5.alloc (.cells #[] tTy)).ownsRow x5.heap.size tTy 2 (.slice (some ⟨x5.heap.size, 0, none⟩) 0 0) 0 [] from ⟨rfl, .inr ⟨_, 0, #[], rfl, Nat.le_refl _, hkE, Nat.le_refl _, Nat.zero_le _, rfl, rfl⟩⟩)
    have HE0 := Lib.hid (And.intro alE.size (And.intro (HL.out.on hOE.below fun _ _ h => h.below hOE.below) (And.intro hOE alE)))
    obtain ⟨ti, tz, tb, TE, hT⟩ := elT
    have HTE := Lib.hid (And.intro TE hT)
    have HOne := Lib.hid (one_ty HL.out)
    clear alE hkE hOE TE hT
    go_wp2_with (at_builtin; refine walk_copy HTE.out.1 HTE.out.2 rfl _ _ rfl rfl rfl HO.out HE0.out.1 HE0.out.2.1 HFew.out.1.1 HOne.out.2 ?_)
    intro v1 y3 ho3 hb3
    obtain ⟨ao2, cap2, rfl⟩ := own_slice ho3
    have hb5 : Below x5.heap.size x5 y3 := HE0.out.2.2.2.trans hb3
    have hY3 := H5.out.step hb5
    have HX0 := Lib.hid (hY3.new #[.slice ao2 l.length cap2] tCf rfl)
    have HGr := Lib.hid (show Grow w (bs p.1.1) m l ao2 x5.heap.size y3.heap.size y3 0 from fun hl0 => by
      rw [mix_zero]
      obtain ⟨G, cap', e, h1, h2⟩ := Grid.of_own (P := IsTy) (FF := fun G k => k = G) (L := l) ho3 hl0 rfl HL.out.len HOne.out.1 fun i a u hi hu G hG hG2 y hy => by
        have hby : Below w.heap.size w y := hY3.below.trans (hy.below hY3.below.size fun k hk => by rw [hk]; exact Nat.le_trans H5.out.below.size hG)
        exact (HL.out.is i a u hi hu).below hby
      obtain ⟨rfl, -⟩ : ao2 = some ⟨G, 0, none⟩ ∧ _ := by simpa using e
      obtain ⟨G', cap'', e', -, h3⟩ := Tail.of_own (P := IsTy w) (L := l) ho3 hl0 rfl HL.out.len HOne.out.1 HL.out.is
      obtain rfl : G = G' := by simpa using (Value.slice.inj e').1
      exact ⟨G, rfl, h1, h2.lt, h2, h3⟩)
    have HGX := Lib.hid (HGr.out.below (Tr.fresh_one y3 (.cells #[.slice ao2 l.length cap2] tCf)))
    have HNum := Lib.hid (And.intro (show w.heap.size + 1 + 1 < x5.heap.size from (Array.getElem?_eq_some_iff.1 H5.out.at0).1) (show x5.heap.size ≤ y3.heap.size from hb5.size))
    clear ho3 hb3 hb5 hY3 HGr b0 HE0 HO HTE HOne
    go_upto_region 7 with fail
    generalize y3.alloc (.cells #[.slice ao2 l.length cap2] tCf) = X at *
    generalize y3.heap.size = R8 at *
    generalize x5.heap.size = B5 at *
    have b0 := box1 HX0.out.at0
    have hbig : l.length ≤ 9223372036854775807 := by have := HFew.out.1.1; omega
    go_wp2_with fail
    clear b0
    go_loopw [52] (fun i wr => ∃ j : Nat, j ≤ l.length ∧ i = .int .i64 j ∧ Hid (On w [(R8, .cells #[.slice ao2 l.length cap2] tCf (0, 0)), (w.heap.size + 1 + 1, .cells #[.string m.ty, .string m.rel, .bool m.wild] tAl (0, 0)), (w.heap.size + 1, .cells #[.string (bs p.1.1), .string (bs p.1.2.1), .string (bs p.1.2.2), .string (bs p.2.1), .string (bs p.2.2.1), .string (bs p.2.2.2)] 57 (0, 0)), (w.heap.size, .cells #[.slice ao l.length cap] tCf (0, 0))] wr ∧ Grow w (bs p.1.1) m l ao2 B5 R8 wr j)) (fun i _ => l.length - (intOf i).toNat)
    case atStart => exact ⟨0, by omega, rfl, Lib.hid ⟨HX0.out, HGX.out⟩⟩
    case round =>
      obtain ⟨j, hj, rfl, HJ⟩ := hrel
      by_cases hlt : j < l.length
      · obtain ⟨G, rfl, hG1, hG2, hgr, htl⟩ := HJ.out.2 (fun e => by rw [e] at hlt; simp at hlt)
        obtain ⟨u, -, hcs, ro, rc, vs, rfl, hla0⟩ := htl.at (List.getElem?_eq_getElem hlt)
        have hla := hla0.on HJ.out.1.below fun _ _ h => h.below HJ.out.1.below
        have HLa0 := Lib.hid hla0
        have hix := ix_ty G l.length cap2 hlt
        have c0 : wr.cell? ⟨G, j * 2, none⟩ = some (.string l[j].name) := hcs 0 _ rfl
        have c1 : wr.cell? ⟨G, j * 2 + 1, none⟩ = some (.slice ro l[j].rels.length rc) := hcs 1 _ rfl
        have HJs := Lib.hid (fun hs => HJ.out.2.same hlt hs)
        have H12 := Lib.hid (HFew.out.1.2 _ (List.getElem_mem hlt))
        have HSC := Lib.hid (HFew.out.2 _ (List.getElem_mem hlt))
        have HLt := Lib.hid hlt
        have HWT := Lib.hid (show Lt.same l[j].name (bs p.1.1) = true → wideT (bs p.1.1) m l[j] = ⟨l[j].name, l[j].rels.map (wideR m)⟩ from fun h => by rw [wideT, if_pos h])
        have HLj := Lib.hid (List.getElem?_eq_getElem hlt)
        have HMix := Lib.hid (And.intro (mix_at (f := wideT (bs p.1.1) m) hlt) (mix_next (f := wideT (bs p.1.1) m) hlt))
        generalize l[j] = t at *
        have hx := HJ.out.1.new #[.string t.name, .slice ro t.rels.length rc] tTy rfl
        have HBx := Lib.hid (Tr.fresh_one wr (.cells #[.string t.name, .slice ro t.rels.length rc] tTy))
        have HJ2 := Lib.hid (And.intro hx (HJ.out.2.below HBx.out))
        have HLa := Lib.hid (hla.on HBx.out fun _ _ h => h.below HBx.out)
        clear hgr htl hcs hla hla0 hx
        go_upto_region 10 with fail
        clear hix c0 c1
        generalize wr.alloc (.cells #[.string t.name, .slice ro t.rels.length rc] tTy) = Y at *
        generalize hRY : wr.heap.size = RY at *
        have HRY := Lib.hid hRY
        clear hRY
        obtain ⟨d0, d1⟩ := box2 HJ2.out.1.at0
        obtain ⟨c0, -⟩ := box6 HJ2.out.1.at3
        cases hs : same t.name (bs p.1.1) with
        | false =>
          have e1 : (t.name.toList == (bs p.1.1).toList) = false := hs
          have e2 : (t.name.toList != (bs p.1.1).toList) = true := by rw [bne, e1]; rfl
          have HN3 := Lib.hid (And.intro HJ2.out.1.tail ((HJs.out hs).below (by rw [HRY.out]; exact HBx.out)))
          clear hs
          go_wp2_with fail
          go_roundw
          case rel => exact ⟨j + 1, by omega, by go_num, HN3⟩
          case measure => simp [intOf]; omega
        | true =>
          have e1 : (t.name.toList == (bs p.1.1).toList) = true := hs
          have e2 : (t.name.toList != (bs p.1.1).toList) = false := by rw [bne, e1]; rfl
          have HSm := Lib.hid hs
          clear hs HJs
          go_upto_region 11 with fail
          have alE := Tr.fresh_one Y (.cells #[] tRl)
          have hkE := heap_alloc_new Y (.cells #[] tRl)
          obtain ⟨d0, d1⟩ := box2 (HJ2.out.1.step alE).at0
          have HO := Lib.hid (show (Y.alloc (.cells #[] tRl)).ownsRow Y.heap.size tRl 6 (.slice (some ⟨Y.heap.size, 0, none⟩) 0 0) 0 [] from ⟨rfl, .inr ⟨_, 0, #[], rfl, Nat.le_refl _, hkE, Nat.le_refl _, Nat.zero_le _, rfl, rfl⟩⟩)
          have HE0 := Lib.hid (And.intro alE.size (And.intro (HLa.out.on alE fun _ _ h => h.below alE) alE))
          obtain ⟨ti, tz, tb, TE, hT⟩ := elR
          have HTE := Lib.hid (And.intro TE hT)
          have HOne := Lib.hid (one_rl HLa.out)
          have h12 : t.rels.length ≤ 300000 := by have := H12.out; omega
          clear alE hkE TE hT
          go_wp2_with (at_builtin; refine walk_copy HTE.out.1 HTE.out.2 rfl _ _ rfl rfl rfl HO.out HE0.out.1 HE0.out.2.1 h12 HOne.out.2 ?_)
          intro v6 y6 ho6 hb6
          obtain ⟨ao3, cap3, rfl⟩ := own_slice ho6
          have hbY : Below Y.heap.size Y y6 := HE0.out.2.2.trans hb6
          have HG2Y := Lib.hid (show G < Y.heap.size by
            obtain ⟨G', e, -, -, h, -⟩ := HJ2.out.2 (fun e => by have h := HLt.out; rw [e] at h; simp at h)
            obtain rfl : G = G' := by simpa using e
            exact h.lt)
          have HGR := Lib.hid (GrowR.start (m := m) (G := G) (B := Y.heap.size) HLa0.out (HJ2.out.1.step hbY).below (by have := HNum.out; omega) HJ2.out.1.below.size ho6)
          have HY6 := Lib.hid hbY
          clear ho6 hb6 hbY d0 d1 HO HE0 HTE HOne c0 e1 e2
          go_wp2_with fail
          go_loopw [68] (fun i wr => ∃ k : Nat, k ≤ t.rels.length ∧ i = .int .i64 k ∧ Hid (Below Y.heap.size Y wr ∧ GrowR m t.rels ao3 G Y.heap.size wr k)) (fun i _ => t.rels.length - (intOf i).toNat)
          case atStart => exact ⟨0, by omega, rfl, Lib.hid ⟨HY6.out, HGR.out⟩⟩
          case round =>
            obtain ⟨k, hk, rfl, HKr⟩ := hrel
            by_cases hkt : k < t.rels.length
            · obtain ⟨R, rfl, hR1, hgr⟩ := HKr.out.2 (fun e => by rw [e] at hkt; simp at hkt)
              obtain ⟨u, -, hcs, so, sc, no, nc, ss, rfl, hla, -⟩ := hgr.at (mix_at hkt)
              have hix := ix_rl R t.rels.length cap3 hkt
              have c1 : wr.cell? ⟨R, k * 6 + 1, none⟩ = some (.slice so t.rels[k].allow.length sc) := hcs 1 _ rfl
              have HRl := Lib.hid (And.intro hkt (And.intro (show t.rels[k].allow.length ≤ 300000 from Nat.le_trans (HSC.out _ (List.getElem_mem hkt)) (by omega)) (And.intro hgr (And.intro HKr.out.1 (And.intro hla (And.intro (hgr.lt : R < wr.heap.size) (show G < wr.heap.size from Nat.lt_of_lt_of_le HG2Y.out HKr.out.1.size)))))))
              have HX := Lib.hid (show ∀ x, Turns (fun g => g = R ∨ wr.heap.size ≤ g) wr.drew x → x.cell? ⟨w.heap.size + 1 + 1, 0, none⟩ = some (.string m.ty) ∧ x.cell? ⟨w.heap.size + 1 + 1, 1, none⟩ = some (.string m.rel) ∧ x.cell? ⟨w.heap.size + 1 + 1, 2, none⟩ = some (.bool m.wild) from fun x hx => by
                have h1 := (HJ2.out.1.step HKr.out.1).at2
                have h2 : wr.drew.heap[w.heap.size + 1 + 1]? = some (.cells #[.string m.ty, .string m.rel, .bool m.wild] tAl (0, 0)) := h1
                have h3 := (Array.getElem?_eq_some_iff.1 h1).1
                exact box3 (hx.heap h2 (by have := HNum.out; have := HG2Y.out; omega)))
              have al : Below wr.drew.heap.size wr.drew (wr.alloc (.cells #[.string m.ty, .string m.rel, .bool m.wild] tAl)).drew := ⟨rfl, rfl, rfl, (Tr.fresh_one wr (.cells #[.string m.ty, .string m.rel, .bool m.wild] tAl)).size, fun i hi => (Tr.fresh_one wr (.cells #[.string m.ty, .string m.rel, .bool m.wild] tAl)).block i hi⟩
              have hkA : (wr.alloc (.cells #[.string m.ty, .string m.rel, .bool m.wild] tAl)).drew.heap[wr.heap.size]? = some (.cells #[.string m.ty, .string m.rel, .bool m.wild] tAl (0, 0)) := heap_alloc_new wr (.cells #[.string m.ty, .string m.rel, .bool m.wild] tAl)
              have hal : Below wr.heap.size wr (wr.alloc (.cells #[.string m.ty, .string m.rel, .bool m.wild] tAl)).drew := (Below.refl _ _).drew.trans al
              have HAl := Lib.hid (And.intro al (And.intro (show (wr.alloc (.cells #[.string m.ty, .string m.rel, .bool m.wild] tAl)).drew.ownsRow wr.heap.size tAl 3 (.slice (some ⟨wr.heap.size, 0, none⟩) 1 1) 1 (alV m).cells.toList from ⟨rfl, .inr ⟨_, 1, _, rfl, Nat.le_refl _, hkA, Nat.le_refl _, by decide, rfl, rfl⟩⟩) (And.intro ((hal.cell (p := ⟨R, k * 6 + 1, none⟩) hgr.lt).trans c1) (And.intro hal (And.intro (hla.on hal fun _ _ h => h) hal.size)))))
              have HAl2 := Lib.hid c1
              clear al hkA hal hla hcs hgr
              go_wp2_with fail
              refine Order.region_begin (S := Turns (fun g => g = R ∨ wr.heap.size ≤ g) wr.drew) (by kernel_rfl) ?_
              refine Order.reads_any (idx := [0, 1, 2, 4, 5, 6, 7]) (by kernel_rfl) (Turns.refl _ _) (fun _ _ _ _ _ h => Order.noPanic_put h) 6 _ _ (by decide +kernel) ?_
              simp only [Order.pick, List.getElem?_toArray, List.getElem?_cons_zero, List.getElem?_cons_succ]
              repeat (first
                | (refine Order.reads_off (by rfl) ?_
                   simp only [Act.put, List.setIfInBounds_toArray, List.set_cons_zero, List.set_cons_succ])
                | (apply Order.reads_on
                   · rfl
                   · intro x hx
                     first
                       | (go_simp; rfl)
                       | (obtain ⟨i0, i1, i2⟩ := HX.out x hx
                          go_simp; rfl)
                   simp only [Act.put, List.setIfInBounds_toArray, List.set_cons_zero, List.set_cons_succ]))
              refine Order.reads_end ?_
              apply acts_two (R := Turns (fun g => g = R ∨ wr.heap.size ≤ g)) (fun h k => h.trans k fun _ _ h => h) (i := 3) (j := 8)
              · rfl
              · rfl
              · decide +kernel
              · rfl
              · rfl
              · unfold Oper.wp
                go_simp
                refine ⟨Turns.of_below HAl.out.1, ?_⟩
                generalize (wr.alloc (.cells #[.string m.ty, .string m.rel, .bool m.wild] tAl)).drew = W4 at *
                have c1 := HAl.out.2.2.1
                apply Order.acts_any (R := (Turns (fun g => g = R ∨ wr.heap.size ≤ g))) (fun h k => h.trans k fun _ _ h => h) (i := 8)
                · rfl
                · decide +kernel
                · rfl
                unfold Oper.wp
                go_simp
                refine ⟨Turns.refl _ _, ?_⟩
                obtain ⟨ti, tz, tb, TE, hT⟩ := elA
                apply Order.acts_any (R := (Turns (fun g => g = R ∨ wr.heap.size ≤ g))) (fun h k => h.trans k fun _ _ h => h) (i := 9)
                · rfl
                · decide +kernel
                · rfl
                simp only [List.getElem_toArray, List.getElem_cons_succ, List.getElem_cons_zero]
                refine wp_copy TE hT _ _ rfl (by rfl) (by rfl) HAl.out.2.1 HAl.out.2.2.2.2.2 HAl.out.2.2.2.2.1 HRl.out.2.1 (by omega) (one_al HAl.out.2.2.2.2.1).2 ?_
                intro v5 W5 ho5 hb5
                obtain ⟨ao5, cap5, rfl⟩ := own_slice ho5
                refine ⟨turns_low hb5 (fun k hk => .inr hk), ?_⟩
                simp only [Act.put, List.setIfInBounds_toArray, List.set_cons_zero, List.set_cons_succ]
                have hB5 : Below wr.heap.size wr W5 := HAl.out.2.2.2.1.trans hb5
                have c5 := (hB5.cell (p := ⟨R, k * 6 + 1, none⟩) HRl.out.2.2.2.2.2.1).trans HAl2.out
                have hg5 := HRl.out.2.2.1.below hB5
                have f5 := hg5.free (k * 6 + 1)
                have HF5 := Lib.hid (And.intro (GrowR.put hg5 HRl.out.1 (HRl.out.2.2.2.2.1.on hB5 fun _ _ h => h) ho5 HRl.out.2.2.2.2.2.1 HRl.out.2.2.2.2.2.2) ((HRl.out.2.2.2.1.trans (hB5.mono HRl.out.2.2.2.1.size)).setCell (p := ⟨R, k * 6 + 1, none⟩) hR1 (.slice ao5 (1 + t.rels[k].allow.length) cap5)))
                have HT5 := Lib.hid (show Turns (fun g => g = R ∨ wr.heap.size ≤ g) W5 (W5.setCell ⟨R, k * 6 + 1, none⟩ (.slice ao5 (1 + t.rels[k].allow.length) cap5)) from (Turns.refl _ W5).setCell (.inl rfl) _)
                clear hb5 hB5 hg5 ho5 HAl HRl TE hT
                refine Order.reads_any (idx := [10, 11]) (by kernel_rfl) (Turns.refl _ _) (fun _ _ _ _ _ h => Order.noPanic_put h) 1 _ _ (by decide +kernel) ?_
                simp only [Order.pick, List.getElem?_toArray, List.getElem?_cons_zero, List.getElem?_cons_succ]
                repeat (first
                  | (refine Order.reads_off (by rfl) ?_
                     simp only [Act.put, List.setIfInBounds_toArray, List.set_cons_zero, List.set_cons_succ])
                  | (apply Order.reads_on
                     · rfl
                     · intro x hx
                       first
                         | (go_simp; rfl)
                         | (fail
                            go_simp; rfl)
                     simp only [Act.put, List.setIfInBounds_toArray, List.set_cons_zero, List.set_cons_succ]))
                refine Order.reads_end ?_
                apply Order.acts_any (R := (Turns (fun g => g = R ∨ wr.heap.size ≤ g))) (fun h k => h.trans k fun _ _ h => h) (i := 12)
                · rfl
                · decide +kernel
                · rfl
                unfold Oper.wp
                go_simp
                refine ⟨HT5.out, ?_⟩
                refine wpAnyH_done (by decide +kernel) ?_ _
                refine NoPanic.normal ?_
                clear c5 f5 HT5
                generalize W5.setCell ⟨R, k * 6 + 1, none⟩ (.slice ao5 (1 + t.rels[k].allow.length) cap5) = F at *
                go_wp2_with fail
                go_roundw
                case rel => exact ⟨k + 1, by omega, by go_num, Lib.hid ⟨HF5.out.2, fun _ => ⟨R, rfl, hR1, HF5.out.1⟩⟩⟩
                case measure => simp [intOf]; omega
              · unfold Oper.wp
                go_simp
                refine ⟨Turns.refl _ _, ?_⟩
                apply Order.acts_any (R := (Turns (fun g => g = R ∨ wr.heap.size ≤ g))) (fun h k => h.trans k fun _ _ h => h) (i := 3)
                · rfl
                · decide +kernel
                · rfl
                unfold Oper.wp
                go_simp
                refine ⟨Turns.of_below HAl.out.1, ?_⟩
                generalize (wr.alloc (.cells #[.string m.ty, .string m.rel, .bool m.wild] tAl)).drew = W4 at *
                obtain ⟨ti, tz, tb, TE, hT⟩ := elA
                apply Order.acts_any (R := (Turns (fun g => g = R ∨ wr.heap.size ≤ g))) (fun h k => h.trans k fun _ _ h => h) (i := 9)
                · rfl
                · decide +kernel
                · rfl
                simp only [List.getElem_toArray, List.getElem_cons_succ, List.getElem_cons_zero]
                refine wp_copy TE hT _ _ rfl (by rfl) (by rfl) HAl.out.2.1 HAl.out.2.2.2.2.2 HAl.out.2.2.2.2.1 HRl.out.2.1 (by omega) (one_al HAl.out.2.2.2.2.1).2 ?_
                intro v5 W5 ho5 hb5
                obtain ⟨ao5, cap5, rfl⟩ := own_slice ho5
                refine ⟨turns_low hb5 (fun k hk => .inr hk), ?_⟩
                simp only [Act.put, List.setIfInBounds_toArray, List.set_cons_zero, List.set_cons_succ]
                have hB5 : Below wr.heap.size wr W5 := HAl.out.2.2.2.1.trans hb5
                have c5 := (hB5.cell (p := ⟨R, k * 6 + 1, none⟩) HRl.out.2.2.2.2.2.1).trans HAl2.out
                have hg5 := HRl.out.2.2.1.below hB5
                have f5 := hg5.free (k * 6 + 1)
                have HF5 := Lib.hid (And.intro (GrowR.put hg5 HRl.out.1 (HRl.out.2.2.2.2.1.on hB5 fun _ _ h => h) ho5 HRl.out.2.2.2.2.2.1 HRl.out.2.2.2.2.2.2) ((HRl.out.2.2.2.1.trans (hB5.mono HRl.out.2.2.2.1.size)).setCell (p := ⟨R, k * 6 + 1, none⟩) hR1 (.slice ao5 (1 + t.rels[k].allow.length) cap5)))
                have HT5 := Lib.hid (show Turns (fun g => g = R ∨ wr.heap.size ≤ g) W5 (W5.setCell ⟨R, k * 6 + 1, none⟩ (.slice ao5 (1 + t.rels[k].allow.length) cap5)) from (Turns.refl _ W5).setCell (.inl rfl) _)
                clear hb5 hB5 hg5 ho5 HAl HRl TE hT
                refine Order.reads_any (idx := [10, 11]) (by kernel_rfl) (Turns.refl _ _) (fun _ _ _ _ _ h => Order.noPanic_put h) 1 _ _ (by decide +kernel) ?_
                simp only [Order.pick, List.getElem?_toArray, List.getElem?_cons_zero, List.getElem?_cons_succ]
                repeat (first
                  | (refine Order.reads_off (by rfl) ?_
                     simp only [Act.put, List.setIfInBounds_toArray, List.set_cons_zero, List.set_cons_succ])
                  | (apply Order.reads_on
                     · rfl
                     · intro x hx
                       first
                         | (go_simp; rfl)
                         | (fail
                            go_simp; rfl)
                     simp only [Act.put, List.setIfInBounds_toArray, List.set_cons_zero, List.set_cons_succ]))
                refine Order.reads_end ?_
                apply Order.acts_any (R := (Turns (fun g => g = R ∨ wr.heap.size ≤ g))) (fun h k => h.trans k fun _ _ h => h) (i := 12)
                · rfl
                · decide +kernel
                · rfl
                unfold Oper.wp
                go_simp
                refine ⟨HT5.out, ?_⟩
                refine wpAnyH_done (by decide +kernel) ?_ _
                refine NoPanic.normal ?_
                clear c5 f5 HT5
                generalize W5.setCell ⟨R, k * 6 + 1, none⟩ (.slice ao5 (1 + t.rels[k].allow.length) cap5) = F at *
                go_wp2_with fail
                go_roundw
                case rel => exact ⟨k + 1, by omega, by go_num, Lib.hid ⟨HF5.out.2, fun _ => ⟨R, rfl, hR1, HF5.out.1⟩⟩⟩
                case measure => simp [intOf]; omega
            · have hk' : k = t.rels.length := by omega
              subst hk'
              obtain ⟨G', e, -, -, hgr, htl⟩ := (HJ2.out.2.below HKr.out.1) (fun e => by have h := HLt.out; rw [e] at h; simp at h)
              obtain rfl : G = G' := by simpa using e
              have hon := HJ2.out.1.step HKr.out.1
              have b8 := box1 hon.at1
              obtain ⟨u, -, hcs, ro', rc', vs', rfl, -⟩ := htl.at HLj.out
              have c1 : wr.cell? ⟨G, j * 2 + 1, none⟩ = some (.slice ro' t.rels.length rc') := hcs 1 _ rfl
              have f1 := hgr.free (j * 2 + 1)
              have hix := ix_ty G l.length cap2 hlt
              have HPut := Lib.hid (Grow.put (w := w) (R := R8) (B := B5) (cap := cap3) hgr htl hG1 hG2 HLj.out HSm.out HKr.out.2 HG2Y.out (Nat.le_trans H12.out (by decide)))
              have HOn := Lib.hid (hon.tail.turn (K := fun k => k = G) ((Turns.refl (fun k => k = G) wr).setCell (p := ⟨G, j * 2 + 1, none⟩) rfl (.slice ao3 t.rels.length cap3)) (fun k hk => by have := HNum.out; omega) fun q hq => by
                have := HNum.out
                simp at hq
                rcases hq with rfl | rfl | rfl | rfl <;> simp <;> omega)
              clear hgr htl hon hcs e
              go_wp2_with fail
              clear c1 f1 b8
              generalize wr.setCell ⟨G, j * 2 + 1, none⟩ (.slice ao3 t.rels.length cap3) = F at *
              go_roundw
              case rel => exact ⟨j + 1, by omega, by go_num, Lib.hid ⟨HOn.out, HPut.out⟩⟩
              case measure => simp [intOf]; omega
      · have hj' : j = l.length := by omega
        subst hj'
        have HCf := Lib.hid (HJ.out.2.is (cap := cap2) HL.out.big)
        have HO9 := Lib.hid HJ.out.1
        have b8 := box1 HJ.out.1.at0
        clear HJ
        go_wp2_with fail
        refine (HW.out _ _ HCf.out).mono ?_
        rintro e z1 ⟨b, rfl, -, hx⟩
        have HC2 := Lib.hid (HCf.out.below hx)
        have HO10 := Lib.hid (HO9.out.step hx)
        clear hx b8
        obtain ⟨c0, c1, c2, c3, c4, c5⟩ := box6 HO10.out.at2
        cases b with
        | false =>
          go_wp2_with fail
          refine (HN2.out _).mono ?_
          rintro e z2 ⟨rfl, rfl⟩
          go_wp2_with fail
          go_ret
          exact ⟨rfl, HO10.out.below⟩
        | true =>
          have b8 := box1 HO10.out.at0
          have HV2 := Lib.hid (HV.out _ _ HC2.out)
          rw [HW0.out] at HV2
          go_wp2_with fail
          refine HV2.out.mono ?_
          rintro e z2 ⟨rfl, hx⟩
          have HO11 := Lib.hid (HO10.out.step hx)
          clear hx b8 c0 c1 c2 c3 c4 c5
          obtain ⟨c0, c1, c2, c3, c4, c5⟩ := box6 HO11.out.at2
          go_wp2_with fail
          refine (HN2.out _).mono ?_
          rintro e z3 ⟨rfl, rfl⟩
          go_wp2_with fail
          go_ret
          exact ⟨rfl, HO11.out.below⟩
end LawL11Known
end Go.Proofs.YtopncohhagebbaaGreatDoor
