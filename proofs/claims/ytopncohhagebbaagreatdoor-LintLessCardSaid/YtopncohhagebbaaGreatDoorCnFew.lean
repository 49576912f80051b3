/-
  Layer 8: stilelaw08's Few: whether a configuration is soon gone through.
-/
import Derived.Test.YtopncohhagebbaaGreatDoorCnDef
import Derived.Test.YtopncohhagebbaaGreatDoorRgN
import Derived.Deep.DeepCutAuto
namespace Go.Proofs.YtopncohhagebbaaGreatDoor
open Go.RowKit
namespace Cn
open Tr (Nd IsNode node4 good size errOf fresh_one)
open Gr (Al Rl Ty IsAl IsRl IsTy IsCf Lies ty_at rl_at al_at alV relV tyV tAl tRl tTy tCf box1 box2 box6)

set_option maxHeartbeats 16000000 in
set_option maxRecDepth 100000 in
theorem few_any (l : List Ty) (v : Value) (w : World) (h : IsCf w l v) (ha : ∀ t ∈ l, ∀ r ∈ t.rels, r.allow.length ≤ 281474976710656) :
    Calls Tryz.prog 27 #[v] w fun e x => e = .returned (.bool (fewC l)) ∧ Below w.heap.size w x := by
  obtain ⟨ao, cap, us, rfl, hl⟩ := h
  have h0 := heap_alloc_new w (.cells #[.slice ao l.length cap] tCf)
  have al := fresh_one w (.cells #[.slice ao l.length cap] tCf)
  have HL := Lib.hid (hl.on al fun _ _ h => h.below al)
  have HA := Lib.hid ha
  have hbig : l.length ≤ 9223372036854775807 := hl.big
  have H0 := Lib.hid (And.intro al h0)
  have hR0 : w.heap.size < (w.alloc (.cells #[.slice ao l.length cap] tCf)).heap.size := by simp
  clear hl h0 al ha
  go_enter Tryz.func27, Tryz.ntmps27
  go_upto_region 1 with fail
  generalize w.alloc (.cells #[.slice ao l.length cap] tCf) = X at *
  have b0 := box1 H0.out.2
  go_wp2_with fail
  clear b0
  go_loopw [3, 11] (fun s i wr => ∃ j : Nat, j ≤ l.length ∧ i = .int .i64 j ∧ s = .int .i64 (asC (l.take j) : Nat) ∧ Hid (asC (l.take j) ≤ 300 ∧ (l.take j).all okT = true) ∧ Below X.heap.size X wr) (fun _ i _ => l.length - (intOf i).toNat)
  case atStart => exact ⟨0, by omega, rfl, rfl, Lib.hid ⟨Nat.zero_le _, rfl⟩, Below.refl _ _⟩
  case round =>
    obtain ⟨j, hj, rfl, rfl, hall, hb⟩ := hrel
    by_cases hlt : j < l.length
    · obtain ⟨g, q, ro, rc, vs, hix, hg, c0, c1, hla⟩ := ty_at (HL.out.on hb fun _ _ h => h.below hb) cap hlt
      have hat := all_at hlt hall.out.2
      have hsum := asC_take hlt
      have hsle := asC_le l (j + 1)
      have hno : okT l[j] = false → fewC l = false := fun h => by rw [fewC, List.all_eq_false.2 ⟨l[j], List.getElem_mem hlt, by rw [h]; decide⟩, Bool.and_false, Bool.false_and]
      have h300 := hall.out.1
      have hal := HA.out l[j] (List.getElem_mem hlt)
      generalize l[j] = t at *
      have al1 := fresh_one wr (.cells #[.string t.name, .slice ro t.rels.length rc] tTy)
      have hk1 := heap_alloc_new wr (.cells #[.string t.name, .slice ro t.rels.length rc] tTy)
      have hR1 : wr.heap.size < (wr.alloc (.cells #[.string t.name, .slice ro t.rels.length rc] tTy)).heap.size := by simp
      have HLT := Lib.hid (hla.on al1 fun _ _ h => h.below al1)
      have hbig2 : t.rels.length ≤ 9223372036854775807 := hla.big
      have H1 := Lib.hid (And.intro (hb.trans (al1.mono hb.size)) hk1)
      have HT := Lib.hid (And.intro hat (And.intro hsum (And.intro hsle (And.intro hno (And.intro h300 hal)))))
      clear hla al1 hk1 hb hall hg hat hsum hsle hno h300 hal
      go_upto_region 5 with fail
      generalize wr.alloc (.cells #[.string t.name, .slice ro t.rels.length rc] tTy) = Y at *
      generalize wr.heap.size = R1 at *
      clear c0 c1 hix
      obtain ⟨b0, b1⟩ := box2 H1.out.2
      generalize asC (l.take j) = N at *
      go_wp2_with fail
      clear b0 b1
      go_loopw [3, 18] (fun s i wr => ∃ k : Nat, k ≤ t.rels.length ∧ i = .int .i64 k ∧ s = .int .i64 (N + asR (t.rels.take k) : Nat) ∧ Hid (N + asR (t.rels.take k) ≤ 300 ∧ (t.rels.take k).all okR = true ∧ (k = 0 ∨ t.rels.length ≤ 60)) ∧ Below Y.heap.size Y wr) (fun _ i _ => t.rels.length - (intOf i).toNat)
      case atStart => exact ⟨0, by omega, rfl, rfl, Lib.hid ⟨HT.out.2.2.2.2.1, rfl, .inl rfl⟩, Below.refl _ _⟩
      case round =>
        obtain ⟨k, hk, rfl, rfl, hall, hb⟩ := hrel
        by_cases hkt : k < t.rels.length
        · obtain ⟨g2, q2, so, sc, no, nc, ss, hix, hg, c0, c1, c2, c3, c4, c5, hla, hnd⟩ := rl_at (HLT.out.on hb fun _ _ h => h.below hb) rc hkt
          have hat := all_at hkt hall.out.2.1
          have hsum := asR_take hkt
          have hsle := asR_le t.rels (k + 1)
          have h300 := hall.out.1
          have hno : okR t.rels[k] = false → okT t = false := fun h => by rw [okT, List.all_eq_false.2 ⟨t.rels[k], List.getElem_mem hkt, by rw [h]; decide⟩, Bool.and_false]
          have hbig4 := HT.out.2.2.2.2.2 t.rels[k] (List.getElem_mem hkt)
          generalize t.rels[k] = r at *
          have al1 := fresh_one wr (.cells #[.string r.name, .slice so r.allow.length sc, .int .i64 r.expr.kind, .string r.expr.ta, .string r.expr.tb, .slice no r.expr.kids.length nc] tRl)
          have hk1 := heap_alloc_new wr (.cells #[.string r.name, .slice so r.allow.length sc, .int .i64 r.expr.kind, .string r.expr.ta, .string r.expr.tb, .slice no r.expr.kids.length nc] tRl)
          have hb1 := hb.trans (al1.mono hb.size)
          have b1 := (box2 ((hb1.block _ hR1).trans H1.out.2)).2
          have HF := Lib.hid (Gr.few_any r.expr _ _ (hnd.below al1))
          have H3 := Lib.hid (And.intro hb1 hk1)
          have HR := Lib.hid (And.intro hat (And.intro hsum (And.intro hsle hno)))
          have hsm : ((N + asR (t.rels.take k) : Nat) : Int) + (r.allow.length : Int) = ((N + asR (t.rels.take (k + 1)) : Nat) : Int) := by omega
          have hsm2 : N + asR (t.rels.take (k + 1)) ≤ 2000000000000000 := by omega
          have HM := Lib.hid hsm
          have HH := Lib.hid h300
          clear hla hnd al1 hk1 hb hg hat hsum hsle h300 hno hb1 hall
          go_upto_region 8 with fail
          generalize wr.alloc (.cells #[.string r.name, .slice so r.allow.length sc, .int .i64 r.expr.kind, .string r.expr.ta, .string r.expr.tb, .slice no r.expr.kids.length nc] tRl) = Z at *
          generalize wr.heap.size = R2 at *
          clear c0 c1 c2 c3 c4 c5 hix
          obtain ⟨-, d1, d2, d3, d4, d5⟩ := box6 H3.out.2
          have HW := Lib.hid (show ∀ y, Below Z.heap.size Z y → Below w.heap.size w y from fun y hy => H0.out.1.trans ((H1.out.1.trans ((H3.out.1.trans (hy.mono H3.out.1.size)).mono H1.out.1.size)).mono H0.out.1.size))
          have hNO : ∀ (_ : okR r = false ∨ 60 < t.rels.length ∨ 300 < N + asR (t.rels.take (k + 1))), fewC l = false := fun h => by
            rcases h with h | h | h
            · exact HT.out.2.2.2.1 (HR.out.2.2.2 h)
            · refine HT.out.2.2.2.1 ?_
              rw [okT, decide_eq_false (by omega), decide_eq_false (by omega)]
              rfl
            · have h1 := HR.out.2.2.1
              have h2 := HT.out.2.1
              have h3 := HT.out.2.2.1
              rw [fewC, decide_eq_false (by omega), Bool.false_and, Bool.false_and]
          have HNO := Lib.hid hNO
          have hs2 := HR.out.2.1
          clear hNO hsm hsm2
          by_cases hn : N + asR (t.rels.take k) + r.allow.length ≤ 300
          · by_cases h60 : t.rels.length ≤ 60
            · by_cases hz : size r.expr ≤ 300
              · rw [decide_eq_true hz] at HF
                have HZ := Lib.hid (show N + asR (t.rels.take (k + 1)) ≤ 300 ∧ (t.rels.take (k + 1)).all okR = true ∧ (k + 1 = 0 ∨ t.rels.length ≤ 60) from ⟨by omega, HR.out.1.2 (by rw [okR, decide_eq_true hz]), .inr h60⟩)
                clear hz hs2
                go_wp2_with fail
                refine HF.out.mono ?_
                rintro e x1 ⟨rfl, hx⟩
                have H4 := Lib.hid (H3.out.1.trans (hx.mono H3.out.1.size))
                clear hx b1 d1 d2 d3 d4 d5
                go_wp2_with fail
                go_roundw
                case rel => exact ⟨k + 1, by omega, by go_num, by rw [← HM.out]; rfl, HZ, H4.out⟩
                case measure => simp [intOf]; omega
              · have HE := Lib.hid (HNO.out (.inl (by rw [okR, decide_eq_false hz])))
                rw [decide_eq_false hz] at HF
                clear hz hs2
                go_wp2_with fail
                refine HF.out.mono ?_
                rintro e x1 ⟨rfl, hx⟩
                have H4 := Lib.hid (HW.out _ hx)
                clear hx b1 d1 d2 d3 d4 d5
                go_wp2_with fail
                go_ret
                exact ⟨by rw [HE.out]; rfl, H4.out⟩
            · have HE := Lib.hid (HNO.out (.inr (.inl (by omega))))
              clear hs2
              go_wp2_with fail
              go_ret
              exact ⟨by rw [HE.out]; rfl, HW.out _ (Below.refl _ _)⟩
          · have HE := Lib.hid (HNO.out (.inr (.inr (by omega))))
            have h300 := HH.out
            clear hs2
            go_wp2_with fail
            go_ret
            exact ⟨by rw [HE.out]; rfl, HW.out _ (Below.refl _ _)⟩
        · have hk' : k = t.rels.length := by omega
          subst hk'
          have ha := hall.out
          rw [List.take_length] at ha
          have hsum := HT.out.2.1
          have HE := Lib.hid (show asC (l.take (j + 1)) ≤ 300 ∧ (l.take (j + 1)).all okT = true from ⟨by omega, HT.out.1.2 (by
            rw [okT, ha.2.1, Bool.and_true, Bool.or_eq_true, decide_eq_true_eq, decide_eq_true_eq]
            exact ha.2.2)⟩)
          have HQ := Lib.hid (show ((N + asR (t.rels.take t.rels.length) : Nat) : Int) = (asC (l.take (j + 1)) : Nat) by rw [List.take_length, hsum])
          have HB := Lib.hid (H1.out.1.trans (hb.mono H1.out.1.size))
          clear ha hall hb hsum
          generalize N + asR (t.rels.take t.rels.length) = M at *
          go_wp2_with fail
          go_roundw
          case rel => exact ⟨j + 1, by omega, by go_num, by rw [HQ.out], HE, HB.out⟩
          case measure => simp [intOf]; omega
    · have hj' : j = l.length := by omega
      subst hj'
      have ha := hall.out
      rw [List.take_length] at ha
      have HE := Lib.hid (show fewC l = decide (l.length ≤ 30) by rw [fewC, decide_eq_true ha.1, ha.2]; rfl)
      have HB := Lib.hid (H0.out.1.trans (hb.mono H0.out.1.size))
      have b0 := box1 ((hb.block _ hR0).trans H0.out.2)
      clear ha hall hb
      go_wp2_with fail
      go_ret
      exact ⟨by rw [HE.out]; simp; omega, HB.out⟩
end Cn
end Go.Proofs.YtopncohhagebbaaGreatDoor
