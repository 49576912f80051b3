/-
  Layer 9: the statement LintStrata, walked upon what the program's Check is to answer.
  Layer 9: the statements' walks, upon the program's own Check.
-/
import Derived.Test.YticcldohgbpcbaaGreatDoorLgN
import Derived.RegionTactic
import Derived.BigRegion
import Derived.Deep.DeepCutAuto
import Derived.Test.YticcldohgbpcbaaGreatDoorLyCheck
namespace Go.Proofs.YticcldohgbpcbaaGreatDoor
open Go.RowKit
namespace LawL9Strata
open Gr (Al Rl Ty IsCf tCf box1 box2 two_boxes)
open Cn (ShortC box3)
open Knot (Turns)
open Lt

/-- A step to a relation: it is of a stratum that isn't higher, and of a lower one where the step is odd. -/
theorem step_strata {l : List Ty} {S : Nat → Int} {t r : ByteArray} {its : List It} (h : CheckOut l S t r 0 its) {i k : Nat} (hi : i < its.length) (hk : k < its.length) :
    (hangs l its[i] its[k] true = true → S k < S i) ∧ (hangs l its[i] its[k] false = true → S k ≤ S i) := by
  rcases h with ⟨-, -, -, -, h⟩ | ⟨-, h, h2, -, -, h3⟩ | ⟨-, -, -, h, -⟩ | ⟨-, -, a3, -, -, -, -, a8⟩
  · exact absurd h (by decide)
  · exact absurd h3.symm h
  · exact absurd h (by decide)
  · subst a3
    obtain ⟨s, h1, h2⟩ := a8 i hi
    obtain ⟨s', h3, h4⟩ := a8 k hk
    have he : edge l i k = edgeI l (items l)[i] (items l)[k] := by
      rw [edge, List.getElem?_eq_getElem hi, List.getElem?_eq_getElem hk]
    rw [h1, h3]
    constructor
    · intro ho
      have := IsStr.odd hi hk (by rw [he, edgeI, if_pos ho]) h2 h4
      omega
    · intro hev
      by_cases ho : hangs l (items l)[i] (items l)[k] true = true
      · have := IsStr.odd hi hk (by rw [he, edgeI, if_pos ho]) h2 h4
        omega
      · have := IsStr.even hi hk (by rw [he, edgeI, if_neg ho, if_pos hev]) h2 h4
        omega

set_option maxHeartbeats 8000000 in
set_option maxRecDepth 100000 in
theorem far (l : List Ty) (v : Value) (w : World) (hn : IsCf w l v) (ha : ∀ t ∈ l, ∀ r ∈ t.rels, r.allow.length ≤ 281474976710656) (hz : few9 l = false)
    (hA : ∀ x, Below w.heap.size w x → Calls Tryz.prog 8 #[] x fun e y => e = .returned (.bool true) ∧ Below x.heap.size x y) :
    Calls Tryz.prog 4 #[v] w fun e x => e = .returned (.bool true) ∧ Below w.heap.size w x := by
  obtain ⟨ao, cap, us, rfl, -⟩ := id hn
  have HA := Lib.hid hA
  have HF := Lib.hid (show ∀ x, Below w.heap.size w x → Calls Tryz.prog 9 #[.agg #[.slice ao l.length cap]] x fun e y => e = .returned (.bool false) ∧ Below x.heap.size x y from fun x hx => by
    have := few9_any l _ x (hn.below hx) ha
    rwa [hz] at this)
  have H0 := Lib.hid (And.intro (Tr.fresh_one w (.cells #[.slice ao l.length cap] tCf)) (heap_alloc_new w (.cells #[.slice ao l.length cap] tCf)))
  clear hn hz ha hA
  go_enter Tryz.func4, Tryz.ntmps4
  go_wp2_with fail
  refine (HA.out _ H0.out.1).mono ?_
  rintro e x ⟨rfl, hx⟩
  have H1 := Lib.hid (And.intro (H0.out.1.trans (hx.mono H0.out.1.size)) ((hx.block _ (Array.getElem?_eq_some_iff.1 H0.out.2).1).trans H0.out.2))
  have b0 := box1 H1.out.2
  clear hx
  go_wp2_with fail
  refine (HF.out _ H1.out.1).mono ?_
  rintro e y ⟨rfl, hy⟩
  have H2 := Lib.hid (H1.out.1.trans (hy.mono H1.out.1.size))
  clear hy
  go_wp2_with fail
  refine (HA.out _ H2.out).mono ?_
  rintro e z ⟨rfl, hz⟩
  go_wp2_with fail
  go_ret
  exact ⟨rfl, H2.out.trans (hz.mono H2.out.size)⟩

set_option maxHeartbeats 16000000 in
set_option maxRecDepth 100000 in
theorem near (HCk : CheckOk) (l : List Ty) (v : Value) (w : World) (hn : IsCf w l v) (hs : ShortC l) (hf : few9 l = true) (ha : ∀ t ∈ l, ∀ r ∈ t.rels, r.allow.length ≤ 281474976710656)
    (hA : ∀ x, Below w.heap.size w x → Calls Tryz.prog 8 #[] x fun e y => e = .returned (.bool true) ∧ Below x.heap.size x y) :
    Calls Tryz.prog 4 #[v] w fun e x => e = .returned (.bool true) ∧ Below w.heap.size w x := by
  obtain ⟨ao, cap, us, rfl, -⟩ := id hn
  obtain ⟨-, hsc, hsl, hit⟩ := few9_parts hf
  have HA := Lib.hid hA
  have HF := Lib.hid (show ∀ x, Below w.heap.size w x → Calls Tryz.prog 9 #[.agg #[.slice ao l.length cap]] x fun e y => e = .returned (.bool true) ∧ Below x.heap.size x y from fun x hx => by
    have := few9_any l _ x (hn.below hx) ha
    rwa [hf] at this)
  have HP := Lib.hid (fun x (hx : Below w.heap.size w x) => HCk l _ x (hn.below hx) hs hsc hsl hit)
  have HH := Lib.hid (fun x (hx : Below w.heap.size w x) a b sa sb odd => rhangs_any l _ x (hn.below hx) hsc hsl a b sa sb odd)
  have HIt := Lib.hid hit
  have H0 := Lib.hid (And.intro (Tr.fresh_one w (.cells #[.slice ao l.length cap] tCf)) (heap_alloc_new w (.cells #[.slice ao l.length cap] tCf)))
  clear hn ha hA hs hf hsc hsl hit HCk
  go_enter Tryz.func4, Tryz.ntmps4
  go_wp2_with fail
  refine (HA.out _ H0.out.1).mono ?_
  rintro e x ⟨rfl, hx⟩
  have H1 := Lib.hid (And.intro (H0.out.1.trans (hx.mono H0.out.1.size)) ((hx.block _ (Array.getElem?_eq_some_iff.1 H0.out.2).1).trans H0.out.2))
  have b0 := box1 H1.out.2
  clear hx H0 HA
  go_wp2_with fail
  refine (HF.out _ H1.out.1).mono ?_
  rintro e y ⟨rfl, hy⟩
  have H2 := Lib.hid (And.intro (H1.out.1.trans (hy.mono H1.out.1.size)) ((hy.block _ (Array.getElem?_eq_some_iff.1 H1.out.2).1).trans H1.out.2))
  clear hy b0 H1 HF
  have b0 := box1 H2.out.2
  go_wp2_with fail
  refine (HP.out _ H2.out.1).mono ?_
  rintro e y1 ⟨u, t, r, code, S, its, rfl, hck, hpi, hx⟩
  have al := Tr.fresh_one y1 (.cells #[.string t, .string r] 29)
  have hbx := hx.trans (al.mono hx.size)
  have H3 := Lib.hid (And.intro (H2.out.1.trans (hbx.mono H2.out.1.size)) (And.intro ((hbx.block _ (Array.getElem?_eq_some_iff.1 H2.out.2).1).trans H2.out.2) (hpi.below al)))
  have hil := hck.few HIt.out
  by_cases hc0 : code = 0
  case neg =>
    have e1 : (code != 0) = true := by simpa using hc0
    clear hc0 hck hpi hx al hbx b0
    go_wp2_with fail
    go_ret
    exact ⟨rfl, H3.out.1⟩
  subst hc0
  have HCo := Lib.hid (fun i k hi hk => step_strata hck (i := i) (k := k) hi hk)
  obtain ⟨pao, pcap, rfl, -⟩ := id hpi
  clear hck hpi hx al hbx b0 H2 HP
  go_wp2_with fail
  generalize y1.alloc (.cells #[.string t, .string r] 29) = Y at *
  go_loopw [30] (fun i wr => ∃ j : Nat, j ≤ its.length ∧ i = .int .i64 j ∧ Below Y.heap.size Y wr) (fun i _ => its.length - (intOf i).toNat)
  case atStart => exact ⟨0, by omega, rfl, Below.refl _ _⟩
  case round =>
    obtain ⟨j, hj, rfl, hb⟩ := hrel
    by_cases hlt : j < its.length
    · obtain ⟨gP, iP, -, lP, -, ⟨a0, a1, a2⟩, -⟩ := (H3.out.2.2.below hb).at hlt (Nat.zero_le j)
      have hkx := heap_alloc_new wr (.cells #[.string its[j].1, .string its[j].2, .int .i64 (S j)] tPi)
      have al := Tr.fresh_one wr (.cells #[.string its[j].1, .string its[j].2, .int .i64 (S j)] tPi)
      have HB := Lib.hid (And.intro (hb.trans (al.mono hb.size)) hkx)
      have HCj := Lib.hid (fun k hk => HCo.out j k hlt hk)
      generalize its[j] = a at *
      generalize S j = sa at *
      clear lP hkx al hb
      go_wp2_with fail
      clear iP a0 a1 a2
      generalize wr.alloc (.cells #[.string a.1, .string a.2, .int .i64 sa] tPi) = Z at *
      generalize wr.heap.size = RX at *
      go_loopw [36] (fun i wr => ∃ k : Nat, k ≤ its.length ∧ i = .int .i64 k ∧ Below Z.heap.size Z wr) (fun i _ => its.length - (intOf i).toNat)
      case atStart => exact ⟨0, by omega, rfl, Below.refl _ _⟩
      case round =>
        obtain ⟨k, hk, rfl, hb⟩ := hrel
        by_cases hkt : k < its.length
        · obtain ⟨gQ, iQ, -, lQ, -, ⟨b0, b1, b2⟩, -⟩ := (H3.out.2.2.below (HB.out.1.trans (hb.mono HB.out.1.size))).at hkt (Nat.zero_le k)
          have hkx := heap_alloc_new wr (.cells #[.string its[k].1, .string its[k].2, .int .i64 (S k)] tPi)
          have al := Tr.fresh_one wr (.cells #[.string its[k].1, .string its[k].2, .int .i64 (S k)] tPi)
          have hbz := hb.trans (al.mono hb.size)
          have HY := Lib.hid (And.intro hbz (And.intro hkx ((hbz.block _ (Array.getElem?_eq_some_iff.1 HB.out.2).1).trans HB.out.2)))
          have hck := HCj.out k hkt
          generalize its[k] = b at *
          generalize S k = sb at *
          have HK := Lib.hid hck
          clear lQ hkx al hbz hb hck
          go_upto_region 12 with fail
          clear iQ b0 b1 b2
          generalize wr.alloc (.cells #[.string b.1, .string b.2, .int .i64 sb] tPi) = V at *
          generalize wr.heap.size = RY at *
          obtain ⟨x0, x1, x2⟩ := box3 HY.out.2.2
          obtain ⟨z0, z1, z2⟩ := box3 HY.out.2.1
          go_cut [10, 11] (fun s10 s11 wx => ∃ g h : Nat, s10 = .pointer (some ⟨g, 0, none⟩) ∧ s11 = .pointer (some ⟨h, 0, none⟩) ∧ Hid (wx.heap[g]? = some (.cells #[.string a.1, .string a.2, .int .i64 sa] tIt (0, 0)) ∧ wx.heap[h]? = some (.cells #[.string b.1, .string b.2, .int .i64 sb] tIt (0, 0)) ∧ Below V.heap.size V wx))
          case first =>
            have l1 : RX < V.heap.size := (Array.getElem?_eq_some_iff.1 HY.out.2.2).1
            have l2 : RY < V.heap.size := (Array.getElem?_eq_some_iff.1 HY.out.2.1).1
            have n1 : ¬ RX = V.heap.size := by omega
            have n2 : ¬ RY = V.heap.size := by omega
            have n3 : ¬ RX = V.heap.size + 1 := by omega
            have n4 : ¬ RY = V.heap.size + 1 := by omega
            go_region
            · go_wp2_with fail
              go_meet
              case rel =>
                obtain ⟨p1, p2, p3, -⟩ := two_boxes V #[.string a.1, .string a.2, .int .i64 sa] #[.string b.1, .string b.2, .int .i64 sb] tIt tIt
                exact ⟨_, _, rfl, rfl, Lib.hid ⟨p2, p3, p1.drew⟩⟩
            · go_wp2_with fail
              go_meet
              case rel =>
                obtain ⟨p1, p2, p3, -⟩ := two_boxes V #[.string b.1, .string b.2, .int .i64 sb] #[.string a.1, .string a.2, .int .i64 sa] tIt tIt
                exact ⟨_, _, rfl, rfl, Lib.hid ⟨p3, p2, p1.drew⟩⟩
          case rest =>
            obtain ⟨g, h, rfl, rfl, HG⟩ := hcut
            clear x0 x1 x2 z0 z1 z2
            have HT := Lib.hid (HY.out.1.trans (HG.out.2.2.mono HY.out.1.size))
            have HW := Lib.hid (H3.out.1.trans ((HB.out.1.trans (HT.out.mono HB.out.1.size)).mono H3.out.1.size))
            have HX := Lib.hid (show ∀ x, Below wc.heap.size wc x → x.cell? ⟨w.heap.size, 0, none⟩ = some (.slice ao l.length cap) ∧ (x.cell? ⟨g, 0, none⟩ = some (.string a.1) ∧ x.cell? ⟨g, 1, none⟩ = some (.string a.2) ∧ x.cell? ⟨g, 2, none⟩ = some (.int .i64 sa)) ∧ (x.cell? ⟨h, 0, none⟩ = some (.string b.1) ∧ x.cell? ⟨h, 1, none⟩ = some (.string b.2) ∧ x.cell? ⟨h, 2, none⟩ = some (.int .i64 sb)) ∧ x.cell? ⟨RX, 2, none⟩ = some (.int .i64 sa) ∧ x.cell? ⟨RY, 2, none⟩ = some (.int .i64 sb) from fun x hx => by
              have hV := HG.out.2.2.trans (hx.mono HG.out.2.2.size)
              have hY0 := HB.out.1.trans ((HT.out.trans (hx.mono HT.out.size)).mono HB.out.1.size)
              exact ⟨box1 ((hY0.block _ (Array.getElem?_eq_some_iff.1 H3.out.2.1).1).trans H3.out.2.1), box3 ((hx.block _ (Array.getElem?_eq_some_iff.1 HG.out.1).1).trans HG.out.1), box3 ((hx.block _ (Array.getElem?_eq_some_iff.1 HG.out.2.1).1).trans HG.out.2.1), (box3 ((hV.block _ (Array.getElem?_eq_some_iff.1 HY.out.2.2).1).trans HY.out.2.2)).2.2, (box3 ((hV.block _ (Array.getElem?_eq_some_iff.1 HY.out.2.1).1).trans HY.out.2.1)).2.2⟩)
            have HO := Lib.hid (HH.out wc HW.out a b sa sb true)
            obtain ⟨i0, ⟨i1, i2, i3⟩, ⟨i4, i5, i6⟩, -, -⟩ := HX.out wc (Below.refl _ _)
            cases hodd : hangs l a b true with
            | true =>
              have hlt2 := HK.out.1 hodd
              rw [hodd] at HO
              have e1 : decide (sa ≤ sb) = false := by simp; omega
              clear hodd
              go_wp2_with fail
              refine HO.out.mono ?_
              rintro e x ⟨rfl, hx⟩
              have HX1 := Lib.hid hx
              clear i0 i1 i2 i3 i4 i5 i6
              obtain ⟨i0, ⟨i1, i2, i3⟩, ⟨i4, i5, i6⟩, i7, i8⟩ := HX.out x hx
              have HE := Lib.hid (HH.out x (HW.out.trans (hx.mono HW.out.size)) a b sa sb false)
              clear hx HO
              cases hev : hangs l a b false with
              | true =>
                have hle := HK.out.2 hev
                rw [hev] at HE
                have e2 : decide (sa < sb) = false := by simp; omega
                clear hev
                go_wp2_with fail
                refine HE.out.mono ?_
                rintro e x2 ⟨rfl, hx2⟩
                have hx3 := HX1.out.trans (hx2.mono HX1.out.size)
                clear i0 i1 i2 i3 i4 i5 i6 i7 i8
                obtain ⟨-, -, -, i7, i8⟩ := HX.out x2 hx3
                have HF := Lib.hid (HT.out.trans (hx3.mono HT.out.size))
                clear hx2 hx3
                go_wp2_with fail
                go_roundw
                case rel => exact ⟨k + 1, by omega, by go_num, HF.out⟩
                case measure => simp [intOf]; omega
              | false =>
                rw [hev] at HE
                clear hev
                go_wp2_with fail
                refine HE.out.mono ?_
                rintro e x2 ⟨rfl, hx2⟩
                have hx3 := HX1.out.trans (hx2.mono HX1.out.size)
                have HF := Lib.hid (HT.out.trans (hx3.mono HT.out.size))
                clear i0 i1 i2 i3 i4 i5 i6 i7 i8 hx2 hx3
                go_wp2_with fail
                go_roundw
                case rel => exact ⟨k + 1, by omega, by go_num, HF.out⟩
                case measure => simp [intOf]; omega
            | false =>
              rw [hodd] at HO
              clear hodd
              go_wp2_with fail
              refine HO.out.mono ?_
              rintro e x ⟨rfl, hx⟩
              have HX1 := Lib.hid hx
              clear i0 i1 i2 i3 i4 i5 i6
              obtain ⟨i0, ⟨i1, i2, i3⟩, ⟨i4, i5, i6⟩, i7, i8⟩ := HX.out x hx
              have HE := Lib.hid (HH.out x (HW.out.trans (hx.mono HW.out.size)) a b sa sb false)
              clear hx HO
              cases hev : hangs l a b false with
              | true =>
                have hle := HK.out.2 hev
                rw [hev] at HE
                have e2 : decide (sa < sb) = false := by simp; omega
                clear hev
                go_wp2_with fail
                refine HE.out.mono ?_
                rintro e x2 ⟨rfl, hx2⟩
                have hx3 := HX1.out.trans (hx2.mono HX1.out.size)
                clear i0 i1 i2 i3 i4 i5 i6 i7 i8
                obtain ⟨-, -, -, i7, i8⟩ := HX.out x2 hx3
                have HF := Lib.hid (HT.out.trans (hx3.mono HT.out.size))
                clear hx2 hx3
                go_wp2_with fail
                go_roundw
                case rel => exact ⟨k + 1, by omega, by go_num, HF.out⟩
                case measure => simp [intOf]; omega
              | false =>
                rw [hev] at HE
                clear hev
                go_wp2_with fail
                refine HE.out.mono ?_
                rintro e x2 ⟨rfl, hx2⟩
                have hx3 := HX1.out.trans (hx2.mono HX1.out.size)
                have HF := Lib.hid (HT.out.trans (hx3.mono HT.out.size))
                clear i0 i1 i2 i3 i4 i5 i6 i7 i8 hx2 hx3
                go_wp2_with fail
                go_roundw
                case rel => exact ⟨k + 1, by omega, by go_num, HF.out⟩
                case measure => simp [intOf]; omega
        · have hk' : k = its.length := by omega
          subst hk'
          have HB2 := Lib.hid (HB.out.1.trans (hb.mono HB.out.1.size))
          clear hb
          go_wp2_with fail
          go_roundw
          case rel => exact ⟨j + 1, by omega, by go_num, HB2.out⟩
          case measure => simp [intOf]; omega
    · have hj' : j = its.length := by omega
      subst hj'
      have HB2 := Lib.hid (H3.out.1.trans (hb.mono H3.out.1.size))
      clear hb
      go_wp2_with fail
      go_ret
      exact ⟨rfl, HB2.out⟩
/-- The statements' walks, upon what the program's Check answers. -/
theorem walk_of (HCk : CheckOk) (l : List Ty) (v : Value) (w : World) (hn : IsCf w l v) (hs : ShortC l) (ha : ∀ t ∈ l, ∀ r ∈ t.rels, r.allow.length ≤ 281474976710656) {a0 a1 : Addr} (hg : Gr.Glob a0 a1 w) :
    Calls Tryz.prog 4 #[v] w fun e x => e = .returned (.bool true) ∧ Below w.heap.size w x := by
  cases hz : few9 l with
  | true => exact near HCk l v w hn hs hz ha fun x hx => awake_any HCk (hg.below hx)
  | false => exact far l v w hn ha hz fun x hx => awake_any HCk (hg.below hx)
end LawL9Strata
namespace LawL9Checks
open Gr (Al Rl Ty IsCf)
open Cn (ShortC)
open Lt
/-- The statement's walk, upon what the program's Check answers. -/
theorem walk_of (HCk : CheckOk) (l : List Ty) (v : Value) (w : World) (hn : IsCf w l v) (hs : ShortC l) (ha : ∀ t ∈ l, ∀ r ∈ t.rels, r.allow.length ≤ 281474976710656) {a0 a1 : Addr} (hg : Gr.Glob a0 a1 w) :
    Calls Tryz.prog 3 #[v] w fun e x => e = .returned (.bool true) ∧ Below w.heap.size w x := by
  cases hz : few9 l with
  | true => exact near HCk l v w hn hs hz ha fun x hx => awake_any HCk (hg.below hx)
  | false => exact far l v w hn ha hz fun x hx => awake_any HCk (hg.below hx)
end LawL9Checks
end Go.Proofs.YticcldohgbpcbaaGreatDoor

namespace Go.Proofs.YticcldohgbpcbaaGreatDoor
open Go.RowKit
open Gr (Ty IsCf)
open Cn (ShortC)
theorem LawL9Checks.walk (l : List Ty) (v : Value) (w : World) (hn : IsCf w l v) (hs : ShortC l) (ha : ∀ t ∈ l, ∀ r ∈ t.rels, r.allow.length ≤ 281474976710656) {a0 a1 : Addr} (hg : Gr.Glob a0 a1 w) :
    Calls Tryz.prog 3 #[v] w fun e x => e = .returned (.bool true) ∧ Below w.heap.size w x := LawL9Checks.walk_of Ly.check_ok l v w hn hs ha hg
theorem LawL9Strata.walk (l : List Ty) (v : Value) (w : World) (hn : IsCf w l v) (hs : ShortC l) (ha : ∀ t ∈ l, ∀ r ∈ t.rels, r.allow.length ≤ 281474976710656) {a0 a1 : Addr} (hg : Gr.Glob a0 a1 w) :
    Calls Tryz.prog 4 #[v] w fun e x => e = .returned (.bool true) ∧ Below w.heap.size w x := LawL9Strata.walk_of Ly.check_ok l v w hn hs ha hg
end Go.Proofs.YticcldohgbpcbaaGreatDoor
