/-
  Layer 8: the document's Good: whether a configuration is well made, where its texts and expressions are no larger than memory.
-/
import Derived.Test.YtopncohhagebbaaGreatDoorCnDef
import Derived.Test.YtopncohhagebbaaGreatDoorRgN
import Derived.Deep.DeepCutAuto
namespace Go.Proofs.YtopncohhagebbaaGreatDoor
open Go.RowKit
namespace Cn
open Tr (Nd IsNode node4 good size errOf fresh_one)
open Gr (Al Rl Ty IsAl IsRl IsTy IsCf Lies ty_at rl_at al_at alV relV tyV tAl tRl tTy tCf box1 box2 box6 empty_iff rfits_any)

def ShortR (r : Rl) : Prop := r.name.size ≤ maxLen ∧ ∀ a ∈ r.allow, a.ty.size ≤ maxLen ∧ a.rel.size ≤ maxLen
def ShortC (l : List Ty) : Prop := ∀ t ∈ l, t.name.size ≤ maxLen ∧ ∀ r ∈ t.rels, ShortR r
theorem gA_parts (ty rl : ByteArray) (wd : Bool) : gA ⟨ty, rl, wd⟩ = (Tr.word ty && (rl.toList.isEmpty || (Tr.word rl && !wd))) := by rw [gA, empty_iff]

set_option maxHeartbeats 16000000 in
set_option maxRecDepth 100000 in
theorem rGood_any (l : List Ty) (v : Value) (w : World) (h : IsCf w l v) (hs : ShortC l) (hz : ∀ t ∈ l, ∀ r ∈ t.rels, size r.expr ≤ 100000) :
    Calls Tryz.prog 71 #[v] w fun e x => e = .returned (.bool (gC l)) ∧ Below w.heap.size w x := by
  obtain ⟨ao, cap, us, rfl, hl⟩ := h
  have h0 := heap_alloc_new w (.cells #[.slice ao l.length cap] tCf)
  have al := fresh_one w (.cells #[.slice ao l.length cap] tCf)
  have HL := Lib.hid (hl.on al fun _ _ h => h.below al)
  have HW := Lib.hid (fun s (h : s.size ≤ maxLen) x => Tr.rword_any s x h)
  have HS := Lib.hid (And.intro hs hz)
  have HG := Lib.hid (show gC l = l.all gT from rfl)
  have hbig : l.length ≤ 9223372036854775807 := hl.big
  have H0 := Lib.hid (And.intro al h0)
  have hR0 : w.heap.size < (w.alloc (.cells #[.slice ao l.length cap] tCf)).heap.size := by simp
  clear hl hs hz h0 al
  go_enter Tryz.func71, Tryz.ntmps71
  go_upto_region 1 with fail
  generalize w.alloc (.cells #[.slice ao l.length cap] tCf) = X at *
  have b0 := box1 H0.out.2
  go_wp2_with fail
  clear b0
  go_loopw [12] (fun i wr => ∃ j : Nat, j ≤ l.length ∧ i = .int .i64 j ∧ Hid ((l.take j).all gT = true) ∧ Below X.heap.size X wr) (fun i _ => l.length - (intOf i).toNat)
  case atStart => exact ⟨0, by omega, rfl, Lib.hid rfl, Below.refl _ _⟩
  case round =>
    obtain ⟨j, hj, rfl, hall, hb⟩ := hrel
    by_cases hlt : j < l.length
    · obtain ⟨g, q, ro, rc, vs, hix, hg, c0, c1, hla⟩ := ty_at (HL.out.on hb fun _ _ h => h.below hb) cap hlt
      have b0 := box1 ((hb.block _ hR0).trans H0.out.2)
      have hat := all_at hlt hall.out
      have hsh := HS.out.1 l[j] (List.getElem_mem hlt)
      have hsz := HS.out.2 l[j] (List.getElem_mem hlt)
      generalize l[j] = t at *
      have al1 := fresh_one wr (.cells #[.string t.name, .slice ro t.rels.length rc] tTy)
      have hk1 := heap_alloc_new wr (.cells #[.string t.name, .slice ro t.rels.length rc] tTy)
      have hR1 : wr.heap.size < (wr.alloc (.cells #[.string t.name, .slice ro t.rels.length rc] tTy)).heap.size := by simp
      have HLT := Lib.hid (hla.on al1 fun _ _ h => h.below al1)
      have hbig2 : t.rels.length ≤ 9223372036854775807 := hla.big
      have H1 := Lib.hid (And.intro (hb.trans (al1.mono hb.size)) hk1)
      have HT := Lib.hid (And.intro hat (And.intro hsh hsz))
      clear hla al1 hk1 hb hall hg hat hsh hsz
      go_upto_region 5 with fail
      generalize wr.alloc (.cells #[.string t.name, .slice ro t.rels.length rc] tTy) = Y at *
      generalize wr.heap.size = R1 at *
      clear b0 c0 c1 hix
      obtain ⟨b0, b1⟩ := box2 H1.out.2
      go_wp2_with fail
      refine (HW.out _ HT.out.2.1.1 _).mono ?_
      rintro e x1 ⟨rfl, hx⟩
      cases hwt : Tr.word t.name with
      | false =>
        have HE := Lib.hid (show gC l = false from by rw [HG.out, HT.out.1.1 (by rw [gT, hwt, Bool.false_and])])
        have H2 := Lib.hid (H1.out.1.trans (hx.mono H1.out.1.size))
        clear hx hwt
        go_wp2_with fail
        go_ret
        exact ⟨by rw [HE.out]; rfl, H0.out.1.trans (H2.out.mono H0.out.1.size)⟩
      | true =>
        have HWT := Lib.hid hwt
        have b1 := (box2 ((hx.block _ hR1).trans H1.out.2)).2
        have HX1 := Lib.hid hx
        clear hx hwt b0
        go_wp2_with fail
        clear b1
        go_loopw [27] (fun i wr => ∃ k : Nat, k ≤ t.rels.length ∧ i = .int .i64 k ∧ Hid ((t.rels.take k).all gR = true) ∧ Below Y.heap.size Y wr) (fun i _ => t.rels.length - (intOf i).toNat)
        case atStart => exact ⟨0, by omega, rfl, Lib.hid rfl, HX1.out⟩
        case round =>
          obtain ⟨k, hk, rfl, hall, hb⟩ := hrel
          clear HX1
          by_cases hkt : k < t.rels.length
          · obtain ⟨g2, q2, so, sc, no, nc, ss, hix, hg, c0, c1, c2, c3, c4, c5, hla, hnd⟩ := rl_at (HLT.out.on hb fun _ _ h => h.below hb) rc hkt
            have b1 := (box2 ((hb.block _ hR1).trans H1.out.2)).2
            have hat := all_at hkt hall.out
            have hsh := HT.out.2.1.2 t.rels[k] (List.getElem_mem hkt)
            have hsz := HT.out.2.2 t.rels[k] (List.getElem_mem hkt)
            generalize t.rels[k] = r at *
            have al1 := fresh_one wr (.cells #[.string r.name, .slice so r.allow.length sc, .int .i64 r.expr.kind, .string r.expr.ta, .string r.expr.tb, .slice no r.expr.kids.length nc] tRl)
            have hk1 := heap_alloc_new wr (.cells #[.string r.name, .slice so r.allow.length sc, .int .i64 r.expr.kind, .string r.expr.ta, .string r.expr.tb, .slice no r.expr.kids.length nc] tRl)
            have hR2 : wr.heap.size < (wr.alloc (.cells #[.string r.name, .slice so r.allow.length sc, .int .i64 r.expr.kind, .string r.expr.ta, .string r.expr.tb, .slice no r.expr.kids.length nc] tRl)).heap.size := by simp
            have HLA := Lib.hid (hla.on al1 fun _ _ h => h)
            have hbig3 : r.allow.length ≤ 9223372036854775807 := hla.big
            have H3 := Lib.hid (And.intro (hb.trans (al1.mono hb.size)) (And.intro hk1 (hnd.below al1)))
            have HR := Lib.hid (And.intro hat (And.intro hsh hsz))
            clear hla hnd al1 hk1 hb hall hg hat hsh hsz
            go_upto_region 11 with fail
            generalize wr.alloc (.cells #[.string r.name, .slice so r.allow.length sc, .int .i64 r.expr.kind, .string r.expr.ta, .string r.expr.tb, .slice no r.expr.kids.length nc] tRl) = Z at *
            generalize wr.heap.size = R2 at *
            clear b1 c0 c1 c2 c3 c4 c5 hix
            obtain ⟨d0, d1, d2, d3, d4, d5⟩ := box6 H3.out.2.1
            go_wp2_with fail
            refine (HW.out _ HR.out.2.1.1 _).mono ?_
            rintro e x2 ⟨rfl, hx⟩
            cases hwr : Tr.word r.name with
            | false =>
              have HE := Lib.hid (show gC l = false from by rw [HG.out, HT.out.1.1 (by rw [gT, HR.out.1.1 (by rw [gR, hwr, Bool.false_and, Bool.false_and]), Bool.and_false])])
              have H4 := Lib.hid (H1.out.1.trans ((H3.out.1.trans (hx.mono H3.out.1.size)).mono H1.out.1.size))
              clear hx hwr d0 d1 d2 d3 d4 d5
              go_wp2_with fail
              go_ret
              exact ⟨by rw [HE.out]; rfl, H0.out.1.trans (H4.out.mono H0.out.1.size)⟩
            | true =>
              have hnd2 := H3.out.2.2.below hx
              have HF := Lib.hid (rfits_any r.expr _ x2 HR.out.2.2 hnd2)
              have HWR := Lib.hid hwr
              have hk2 := (hx.block _ hR2).trans H3.out.2.1
              have H4 := Lib.hid (And.intro (H3.out.1.trans (hx.mono H3.out.1.size)) (And.intro hx hk2))
              clear hx hwr d0 d1 d2 d3 d4 d5 hnd2 hk2
              obtain ⟨d0, d1, d2, d3, d4, d5⟩ := box6 H4.out.2.2
              go_wp2_with fail
              refine HF.out.mono ?_
              rintro e x3 ⟨rfl, hx⟩
              have hk3 := (hx.block _ (Array.getElem?_eq_some_iff.1 H4.out.2.2).1).trans H4.out.2.2
              have H5 := Lib.hid (And.intro (H4.out.1.trans (hx.mono H4.out.1.size)) (And.intro (H4.out.2.1.trans (hx.mono H4.out.2.1.size)) hk3))
              clear hx hk3 d0 d1 d2 d3 d4 d5 HF H4
              obtain ⟨-, d1, -, -, -, -⟩ := box6 H5.out.2.2
              by_cases he : errOf r.expr = 0
              · have he0 : (errOf r.expr != 0) = false := by rw [he]; rfl
                have HER := Lib.hid he
                rw [he]
                clear he he0
                go_wp2_with fail
                clear d1
                go_loopw [48] (fun i wr => ∃ m : Nat, m ≤ r.allow.length ∧ i = .int .i64 m ∧ Hid ((r.allow.take m).all gA = true) ∧ Below Z.heap.size Z wr) (fun i _ => r.allow.length - (intOf i).toNat)
                case atStart => exact ⟨0, by omega, rfl, Lib.hid rfl, H5.out.2.1⟩
                case round =>
                  obtain ⟨m, hm, rfl, hall, hb⟩ := hrel
                  clear H5
                  by_cases hmt : m < r.allow.length
                  · obtain ⟨g3, q3, hix, hg, c0, c1, c2⟩ := al_at (HLA.out.on hb fun _ _ h => h) sc hmt
                    have d1 := (box6 ((hb.block _ hR2).trans H3.out.2.1)).2.1
                    have hat := all_at hmt hall.out
                    have hsh := HR.out.2.1.2 r.allow[m] (List.getElem_mem hmt)
                    generalize r.allow[m] = a at *
                    obtain ⟨ty, rl, wd⟩ := a
                    rw [gA_parts] at hat
                    have al1 := fresh_one wr (.cells #[.string ty, .string rl, .bool wd] tAl)
                    have hk1 := heap_alloc_new wr (.cells #[.string ty, .string rl, .bool wd] tAl)
                    have HB := Lib.hid (And.intro (hb.trans (al1.mono hb.size)) hk1)
                    have HA := Lib.hid (And.intro hat hsh)
                    clear al1 hk1 hb hall hg hat hsh
                    simp only at c0 c1 c2
                    have HNO := Lib.hid (show (Tr.word ty && (rl.toList.isEmpty || (Tr.word rl && !wd))) = false → gC l = false from fun h => by rw [HG.out, HT.out.1.1 (by rw [gT, HR.out.1.1 (by rw [gR, HA.out.1.1 h, Bool.and_false]), Bool.and_false])])
                    have HYES := Lib.hid (fun h => HA.out.1.2 h)
                    have HBW := Lib.hid (show ∀ y, Below Z.heap.size Z y → Below w.heap.size w y from fun y hy => H0.out.1.trans ((H1.out.1.trans ((H3.out.1.trans (hy.mono H3.out.1.size)).mono H1.out.1.size)).mono H0.out.1.size))
                    go_upto_region 17 with fail
                    generalize wr.alloc (.cells #[.string ty, .string rl, .bool wd] tAl) = V at *
                    generalize wr.heap.size = R3 at *
                    clear d1 c0 c1 c2 hix
                    obtain ⟨f0, f1, f2⟩ := box3 HB.out.2
                    go_wp2_with fail
                    refine (HW.out _ HA.out.2.1 _).mono ?_
                    rintro e x4 ⟨rfl, hx⟩
                    have hk4 := (hx.block _ (Array.getElem?_eq_some_iff.1 HB.out.2).1).trans HB.out.2
                    have H6 := Lib.hid (And.intro (HB.out.1.trans (hx.mono HB.out.1.size)) hk4)
                    clear hx hk4 f0 f1 f2 HB
                    obtain ⟨f0, f1, f2⟩ := box3 H6.out.2
                    cases hw1 : Tr.word ty with
                    | false =>
                      have HE := Lib.hid (HNO.out (by rw [hw1]; rfl))
                      clear hw1
                      go_wp2_with fail
                      go_ret
                      exact ⟨by rw [HE.out]; rfl, HBW.out _ H6.out.1⟩
                    | true =>
                      cases hn : rl.toList.isEmpty with
                      | true =>
                        have HE := Lib.hid (HYES.out (by rw [hw1, hn]; rfl))
                        clear hw1
                        go_wp2_with fail
                        go_roundw
                        case rel => exact ⟨m + 1, by omega, by go_num, Lib.hid HE.out, H6.out.1⟩
                        case measure => simp [intOf]; omega
                      | false =>
                        cases wd with
                        | true =>
                          have HE := Lib.hid (HNO.out (by rw [hn]; simp))
                          clear hw1
                          go_wp2_with fail
                          go_ret
                          exact ⟨by rw [HE.out]; rfl, HBW.out _ H6.out.1⟩
                        | false =>
                          have HW1 := Lib.hid hw1
                          have HN1 := Lib.hid hn
                          clear hw1
                          go_wp2_with fail
                          refine (HW.out _ HA.out.2.2 _).mono ?_
                          rintro e x5 ⟨rfl, hx⟩
                          have H7 := Lib.hid (H6.out.1.trans (hx.mono H6.out.1.size))
                          clear hx f0 f1 f2
                          cases hw2 : Tr.word rl with
                          | false =>
                            have HE := Lib.hid (HNO.out (by rw [hw2, HN1.out]; simp))
                            clear hw2
                            go_wp2_with fail
                            go_ret
                            exact ⟨by rw [HE.out]; rfl, HBW.out _ H7.out⟩
                          | true =>
                            have HE := Lib.hid (HYES.out (by rw [hw2, HW1.out]; simp))
                            clear hw2
                            go_wp2_with fail
                            go_roundw
                            case rel => exact ⟨m + 1, by omega, by go_num, Lib.hid HE.out, H7.out⟩
                            case measure => simp [intOf]; omega
                  · have hm' : m = r.allow.length := by omega
                    subst hm'
                    have ha := hall.out
                    rw [List.take_length] at ha
                    have HE := Lib.hid (HR.out.1.2 (by rw [gR, HWR.out, HER.out, ha]; rfl))
                    have HB := Lib.hid (H3.out.1.trans (hb.mono H3.out.1.size))
                    clear ha hall hb
                    go_wp2_with fail
                    go_roundw
                    case rel => exact ⟨k + 1, by omega, by go_num, Lib.hid HE.out, HB.out⟩
                    case measure => simp [intOf]; omega
              · have he0 : (errOf r.expr != 0) = true := by simpa using he
                have HE := Lib.hid (show gC l = false from by rw [HG.out, HT.out.1.1 (by rw [gT, HR.out.1.1 (by rw [gR, beq_eq_false_iff_ne.2 he, Bool.and_false, Bool.false_and]), Bool.and_false])])
                have H6 := Lib.hid (H1.out.1.trans (H5.out.1.mono H1.out.1.size))
                clear he d1 H5
                go_wp2_with fail
                go_ret
                exact ⟨by rw [HE.out]; rfl, H0.out.1.trans (H6.out.mono H0.out.1.size)⟩
          · have hk' : k = t.rels.length := by omega
            subst hk'
            have ha := hall.out
            rw [List.take_length] at ha
            have HE := Lib.hid (HT.out.1.2 (by rw [gT, HWT.out, ha]; rfl))
            have HB := Lib.hid (H1.out.1.trans (hb.mono H1.out.1.size))
            clear ha hall hb
            go_wp2_with fail
            go_roundw
            case rel => exact ⟨j + 1, by omega, by go_num, Lib.hid HE.out, HB.out⟩
            case measure => simp [intOf]; omega
    · have hj' : j = l.length := by omega
      subst hj'
      have ha := hall.out
      rw [List.take_length] at ha
      rw [ha] at HG
      have HB := Lib.hid (H0.out.1.trans (hb.mono H0.out.1.size))
      clear ha hall hb
      go_wp2_with fail
      go_ret
      exact ⟨by rw [HG.out]; rfl, HB.out⟩
end Cn
end Go.Proofs.YtopncohhagebbaaGreatDoor
