/-
  The statement CanonOne, walked at every text.
-/
import Derived.Test.YtdlfbikpniionaaGreatDoorCnAwake
import Derived.Test.YtdlfbikpniionaaGreatDoorCnPr
import Derived.Test.YtdlfbikpniionaaGreatDoorCnLen
import Derived.Test.YtdlfbikpniionaaGreatDoorRFit
import Derived.Test.YtdlfbikpniionaaGreatDoorGrExpr
import Derived.Test.YtdlfbikpniionaaGreatDoorRunes
import Derived.Deep.DeepCutAuto
namespace Go.Proofs.YtdlfbikpniionaaGreatDoor
open Go.RowKit
namespace LawC8One
open Tr (Nd IsNode node4 good size depth errOf fresh_one two own_slice)
open Gr (bs bs_list bs_size Al Rl Ty IsCf CfS IsTy IsRl Lies ty_at rl_at tRl tTy prC parseA Glob tCf tPl box1 box2 box6 rn Fit two_boxes samecfg_any print_parse config_runes RG TG)
open Sg (plV)
open Cn

theorem gA_of {a : Al} (h : Gr.AG a) : gA a = true := by
  rw [gA, h.1, Bool.true_and, Bool.or_eq_true]
  rcases h.2 with h | ⟨h1, h2⟩
  · exact .inl (by rw [h]; rfl)
  · exact .inr (by rw [h1, h2]; rfl)
theorem gR_of {r : Rl} (h : RG r) : gR r = (errOf r.expr == 0) := by
  have h2 : r.allow.all gA = true := List.all_eq_true.2 fun a ha => gA_of (h.2.2 a ha)
  rw [gR, h.1, h2, Bool.true_and, Bool.and_true]
theorem gT_of {t : Ty} (h : TG t) : gT t = t.rels.all gR := by rw [gT, h.1, Bool.true_and]

set_option maxHeartbeats 16000000 in
set_option maxRecDepth 100000 in
theorem main (s : ByteArray) (w : World) (g1 : s.size ≤ 2000) {a0 a1 : Addr} (hg : Glob a0 a1 w) :
    Calls Tryz.prog 4 #[.string s] w fun e y => e = .returned (.bool true) ∧ Below w.heap.size w y := by
  have HA := Lib.hid (fun x => awake_any x)
  have HE1 := Lib.hid (fun y (hb : Below w.heap.size w y) => Gr.Parse_any (s := s) (by omega) (hg.below hb))
  have HG := Lib.hid hg
  have HS := Lib.hid (fun h => And.intro (Gr.parsed_size (s := s) h).1 (parsed_len (s := s) h))
  have e1 : decide ((2000 : Int) < (s.size : Int)) = false := by simp; omega
  clear hg g1
  go_enter Tryz.func4, Tryz.ntmps4
  go_wp2_with fail
  refine (HA.out _).mono ?_
  rintro e w1 ⟨rfl, b1⟩
  have HB1 := Lib.hid b1
  clear b1 HA
  go_wp2_with fail
  refine (HE1.out _ HB1.out).mono ?_
  rintro e y1 ⟨v1, rfl, hv1, by1⟩
  clear HE1 e1
  have hi1 : IsCf y1 (parseA s).1 v1 := CfS.is hv1
  clear hv1
  generalize parseA s = r1 at *
  obtain ⟨l, ⟨p1, p2⟩, k⟩ := r1
  simp only [plV] at *
  obtain ⟨o1, c1, us1, rfl, -⟩ := id hi1
  obtain ⟨q1, q2, q3, q4⟩ := two_boxes y1 #[.slice o1 l.length c1] #[.int .i64 p1, .int .i64 p2] tCf tPl
  have H1 := Lib.hid (And.intro ((HB1.out.trans (by1.mono HB1.out.size)).trans (q1.mono (Nat.le_trans HB1.out.size by1.size))) (And.intro q2 (hi1.below q1)))
  clear hi1 by1 HB1 q1 q2 q3 q4
  by_cases hk : k = 0
  case neg =>
    go_wp2_with fail
    go_ret
    exact ⟨rfl, H1.out.1⟩
  obtain ⟨htg, hln⟩ := HS.out hk
  subst hk
  have HTG := Lib.hid htg
  have HLN := Lib.hid hln
  have hbig : l.length ≤ 9223372036854775807 := by
    obtain ⟨_, _, _, _, h⟩ := H1.out.2.2
    exact h.big
  have HP := Lib.hid (fun x v (hv : IsCf x l v) => Print_any l v x hv (fun t ht r hr => Nat.le_trans (hln.1 t ht r hr).1 (by decide)) (fun _ => Nat.le_trans hln.2 (by decide)))
  have b0 := box1 H1.out.2.1
  clear HS htg hln
  go_wp2_with fail
  generalize (y1.alloc (.cells #[.slice o1 l.length c1] tCf)).alloc (.cells #[.int .i64 p1, .int .i64 p2] tPl) = A1 at *
  generalize y1.heap.size = R0 at *
  refine (HP.out _ _ H1.out.2.2).mono ?_
  rintro e x1 ⟨hx, h⟩
  have H2 := Lib.hid (And.intro (H1.out.1.trans (hx.mono H1.out.1.size)) (And.intro ((hx.block _ (Array.getElem?_eq_some_iff.1 H1.out.2.1).1).trans H1.out.2.1) (H1.out.2.2.below hx)))
  clear hx H1 b0
  have b0 := box1 H2.out.2.1
  have HL : ∃ us, Hid (Lies IsTy 2 x1 o1 l us) := by
    obtain ⟨o3, c3, us, he3, hl⟩ := H2.out.2.2
    obtain ⟨rfl, rfl⟩ : o1 = o3 ∧ c1 = c3 := by simpa using he3
    exact ⟨us, Lib.hid hl⟩
  obtain ⟨us, HL⟩ := HL
  rcases h with ⟨hc, rfl⟩ | ⟨hc, rfl⟩
  · have HC := Lib.hid hc
    clear hc HP
    go_wp2_with fail
    clear b0
    go_loopw [43] (fun i wr => ∃ j : Nat, j ≤ l.length ∧ i = .int .i64 j ∧ Hid ((l.take j).all gT = true) ∧ Below x1.heap.size x1 wr) (fun i _ => l.length - (intOf i).toNat)
    case atStart => exact ⟨0, by omega, rfl, Lib.hid rfl, Below.refl _ _⟩
    case round =>
      obtain ⟨j, hj, rfl, hall, hb⟩ := hrel
      by_cases hlt : j < l.length
      · obtain ⟨g, q, ro, rc, vs, hix, hg, c0, c1', hla⟩ := ty_at (HL.out.on hb fun _ _ h => h.below hb) c1 hlt
        have hat := all_at hlt hall.out
        have htg := HTG.out l[j] (List.getElem_mem hlt)
        have hsz : ∀ r ∈ l[j].rels, size r.expr ≤ 6000 := fun r hr => (HLN.out.1 l[j] (List.getElem_mem hlt) r hr).2
        generalize l[j] = t at *
        have al1 := fresh_one wr (.cells #[.string t.name, .slice ro t.rels.length rc] tTy)
        have hk1 := heap_alloc_new wr (.cells #[.string t.name, .slice ro t.rels.length rc] tTy)
        have hR1 : wr.heap.size < (wr.alloc (.cells #[.string t.name, .slice ro t.rels.length rc] tTy)).heap.size := by simp
        have HLT := Lib.hid (hla.on al1 fun _ _ h => h.below al1)
        have hbig2 : t.rels.length ≤ 9223372036854775807 := hla.big
        have H1 := Lib.hid (And.intro (hb.trans (al1.mono hb.size)) hk1)
        have HT := Lib.hid (And.intro hat htg)
        have HTg := Lib.hid htg
        have HSZ := Lib.hid hsz
        clear hla al1 hk1 hb hall hg hat htg hsz
        go_upto_region 10 with fail
        generalize wr.alloc (.cells #[.string t.name, .slice ro t.rels.length rc] tTy) = Y at *
        generalize wr.heap.size = R1 at *
        clear c0 c1' hix
        obtain ⟨b0, b1⟩ := box2 H1.out.2
        go_wp2_with fail
        clear b0 b1
        go_loopw [50] (fun i wr => ∃ k : Nat, k ≤ t.rels.length ∧ i = .int .i64 k ∧ Hid ((t.rels.take k).all gR = true) ∧ Below Y.heap.size Y wr) (fun i _ => t.rels.length - (intOf i).toNat)
        case atStart => exact ⟨0, by omega, rfl, Lib.hid rfl, Below.refl _ _⟩
        case round =>
          obtain ⟨k, hk, rfl, hall, hb⟩ := hrel
          by_cases hkt : k < t.rels.length
          · obtain ⟨g2, q2, so, sc, no, nc, ss, hix, hg, c0, c1', c2, c3, c4, c5, hla, hnd⟩ := rl_at (HLT.out.on hb fun _ _ h => h.below hb) rc hkt
            have hat := all_at hkt hall.out
            have hmem := List.getElem_mem hkt
            generalize t.rels[k] = r at *
            have al1 := fresh_one wr (.cells #[.string r.name, .slice so r.allow.length sc, .int .i64 r.expr.kind, .string r.expr.ta, .string r.expr.tb, .slice no r.expr.kids.length nc] tRl)
            have hk1 := heap_alloc_new wr (.cells #[.string r.name, .slice so r.allow.length sc, .int .i64 r.expr.kind, .string r.expr.ta, .string r.expr.tb, .slice no r.expr.kids.length nc] tRl)
            have HF := Lib.hid (Gr.rfits_any r.expr _ _ (Nat.le_trans (HSZ.out r hmem) (by decide)) (hnd.below al1))
            have H3 := Lib.hid (And.intro (hb.trans (al1.mono hb.size)) hk1)
            have HR := Lib.hid (And.intro hat hmem)
            clear hla hnd al1 hk1 hb hall hg hat hmem
            go_upto_region 13 with fail
            generalize wr.alloc (.cells #[.string r.name, .slice so r.allow.length sc, .int .i64 r.expr.kind, .string r.expr.ta, .string r.expr.tb, .slice no r.expr.kids.length nc] tRl) = Z at *
            generalize wr.heap.size = R2 at *
            clear c0 c1' c2 c3 c4 c5 hix
            obtain ⟨-, -, d2, d3, d4, d5⟩ := box6 H3.out.2
            have HW := Lib.hid (show ∀ y, Below Z.heap.size Z y → Below w.heap.size w y from fun y hy => H2.out.1.trans ((H1.out.1.trans ((H3.out.1.trans (hy.mono H3.out.1.size)).mono H1.out.1.size)).mono H2.out.1.size))
            go_wp2_with fail
            refine HF.out.mono ?_
            rintro e z ⟨rfl, hx⟩
            by_cases he : errOf r.expr = 0
            · have hgr : gR r = true := by rw [gR_of (HT.out.2.2 r HR.out.2), he]; rfl
              have HE := Lib.hid (HR.out.1.2 hgr)
              have H4 := Lib.hid (H3.out.1.trans (hx.mono H3.out.1.size))
              rw [he]
              clear hx he d2 d3 d4 d5 HF hgr
              go_wp2_with fail
              go_roundw
              case rel => exact ⟨k + 1, by omega, by go_num, HE, H4.out⟩
              case measure => simp [intOf]; omega
            · have he0 : (errOf r.expr != 0) = true := by simpa using he
              have H5 := Lib.hid (HW.out _ hx)
              clear hx he d2 d3 d4 d5 HF
              go_wp2_with fail
              go_ret
              exact ⟨rfl, H5.out⟩
          · have hk' : k = t.rels.length := by omega
            subst hk'
            have ha := hall.out
            rw [List.take_length] at ha
            have HE := Lib.hid (HT.out.1.2 (by rw [gT_of HTg.out]; exact ha))
            have HB := Lib.hid (H1.out.1.trans (hb.mono H1.out.1.size))
            clear ha hall hb
            go_wp2_with fail
            go_roundw
            case rel => exact ⟨j + 1, by omega, by go_num, HE, HB.out⟩
            case measure => simp [intOf]; omega
      · have hj' : j = l.length := by omega
        subst hj'
        exfalso
        have ha := hall.out
        rw [List.take_length] at ha
        have h3 : gC l = true := ha
        have h4 := HC.out
        rw [h3] at h4
        cases h4
  · have hlen := HLN.out.2
    have hwc := gC_wc hc
    have hru : Gly.runes (bs (prC l)).data.toList = some (rn (prC l)) := config_runes hwc rfl
    have hrl : (rn (prC l)).length = (prC l).length := List.length_map _
    have HR := Lib.hid (fun x => Ref.runes_any (bs (prC l)) x (by rw [bs_size]; omega))
    rw [hru] at HR
    have HX3 := Lib.hid (fun x (hb : Below w.heap.size w x) => Gr.Parse_any (s := bs (prC l)) (by rw [bs_size]; omega) (HG.out.below hb))
    have HQ := Lib.hid (fun h => print_parse (s := bs (prC l)) hwc rfl h)
    have hbe : ((bs (prC l)).toList == (bs (prC l)).toList) = true := beq_self_eq_true _
    have HBe := Lib.hid hbe
    have HRL := Lib.hid hrl
    have HC := Lib.hid hc
    have HFit := Lib.hid (show Fit l from fun t ht r hr => Nat.le_trans (HLN.out.1 t ht r hr).2 (by decide))
    clear hc hlen hwc hru hrl hbe HG
    generalize rn (prC l) = rs at *
    go_wp2_with fail
    clear b0
    go_loopw [43] (fun i wr => ∃ j : Nat, j ≤ l.length ∧ i = .int .i64 j ∧ Hid ((l.take j).all gT = true) ∧ Below x1.heap.size x1 wr) (fun i _ => l.length - (intOf i).toNat)
    case atStart => exact ⟨0, by omega, rfl, Lib.hid rfl, Below.refl _ _⟩
    case round =>
      obtain ⟨j, hj, rfl, hall, hb⟩ := hrel
      by_cases hlt : j < l.length
      · obtain ⟨g, q, ro, rc, vs, hix, hg, c0, c1', hla⟩ := ty_at (HL.out.on hb fun _ _ h => h.below hb) c1 hlt
        have hat := all_at hlt hall.out
        have htg := HTG.out l[j] (List.getElem_mem hlt)
        have hsz : ∀ r ∈ l[j].rels, size r.expr ≤ 6000 := fun r hr => (HLN.out.1 l[j] (List.getElem_mem hlt) r hr).2
        generalize l[j] = t at *
        have al1 := fresh_one wr (.cells #[.string t.name, .slice ro t.rels.length rc] tTy)
        have hk1 := heap_alloc_new wr (.cells #[.string t.name, .slice ro t.rels.length rc] tTy)
        have hR1 : wr.heap.size < (wr.alloc (.cells #[.string t.name, .slice ro t.rels.length rc] tTy)).heap.size := by simp
        have HLT := Lib.hid (hla.on al1 fun _ _ h => h.below al1)
        have hbig2 : t.rels.length ≤ 9223372036854775807 := hla.big
        have H1 := Lib.hid (And.intro (hb.trans (al1.mono hb.size)) hk1)
        have HT := Lib.hid (And.intro hat htg)
        have HTg := Lib.hid htg
        have HSZ := Lib.hid hsz
        clear hla al1 hk1 hb hall hg hat htg hsz
        go_upto_region 10 with fail
        generalize wr.alloc (.cells #[.string t.name, .slice ro t.rels.length rc] tTy) = Y at *
        generalize wr.heap.size = R1 at *
        clear c0 c1' hix
        obtain ⟨b0, b1⟩ := box2 H1.out.2
        go_wp2_with fail
        clear b0 b1
        go_loopw [50] (fun i wr => ∃ k : Nat, k ≤ t.rels.length ∧ i = .int .i64 k ∧ Hid ((t.rels.take k).all gR = true) ∧ Below Y.heap.size Y wr) (fun i _ => t.rels.length - (intOf i).toNat)
        case atStart => exact ⟨0, by omega, rfl, Lib.hid rfl, Below.refl _ _⟩
        case round =>
          obtain ⟨k, hk, rfl, hall, hb⟩ := hrel
          by_cases hkt : k < t.rels.length
          · obtain ⟨g2, q2, so, sc, no, nc, ss, hix, hg, c0, c1', c2, c3, c4, c5, hla, hnd⟩ := rl_at (HLT.out.on hb fun _ _ h => h.below hb) rc hkt
            have hat := all_at hkt hall.out
            have hmem := List.getElem_mem hkt
            generalize t.rels[k] = r at *
            have al1 := fresh_one wr (.cells #[.string r.name, .slice so r.allow.length sc, .int .i64 r.expr.kind, .string r.expr.ta, .string r.expr.tb, .slice no r.expr.kids.length nc] tRl)
            have hk1 := heap_alloc_new wr (.cells #[.string r.name, .slice so r.allow.length sc, .int .i64 r.expr.kind, .string r.expr.ta, .string r.expr.tb, .slice no r.expr.kids.length nc] tRl)
            have HF := Lib.hid (Gr.rfits_any r.expr _ _ (Nat.le_trans (HSZ.out r hmem) (by decide)) (hnd.below al1))
            have H3 := Lib.hid (And.intro (hb.trans (al1.mono hb.size)) hk1)
            have HR := Lib.hid (And.intro hat hmem)
            clear hla hnd al1 hk1 hb hall hg hat hmem
            go_upto_region 13 with fail
            generalize wr.alloc (.cells #[.string r.name, .slice so r.allow.length sc, .int .i64 r.expr.kind, .string r.expr.ta, .string r.expr.tb, .slice no r.expr.kids.length nc] tRl) = Z at *
            generalize wr.heap.size = R2 at *
            clear c0 c1' c2 c3 c4 c5 hix
            obtain ⟨-, -, d2, d3, d4, d5⟩ := box6 H3.out.2
            have HW := Lib.hid (show ∀ y, Below Z.heap.size Z y → Below w.heap.size w y from fun y hy => H2.out.1.trans ((H1.out.1.trans ((H3.out.1.trans (hy.mono H3.out.1.size)).mono H1.out.1.size)).mono H2.out.1.size))
            go_wp2_with fail
            refine HF.out.mono ?_
            rintro e z ⟨rfl, hx⟩
            by_cases he : errOf r.expr = 0
            · have hgr : gR r = true := by rw [gR_of (HT.out.2.2 r HR.out.2), he]; rfl
              have HE := Lib.hid (HR.out.1.2 hgr)
              have H4 := Lib.hid (H3.out.1.trans (hx.mono H3.out.1.size))
              rw [he]
              clear hx he d2 d3 d4 d5 HF hgr
              go_wp2_with fail
              go_roundw
              case rel => exact ⟨k + 1, by omega, by go_num, HE, H4.out⟩
              case measure => simp [intOf]; omega
            · exfalso
              have h1 := HR.out.1.1 (by rw [gR_of (HT.out.2.2 r HR.out.2), beq_eq_false_iff_ne.2 he])
              have h2 := HT.out.1.1 (by rw [gT_of HTg.out]; exact h1)
              have h3 : gC l = false := h2
              have h4 := HC.out
              rw [h3] at h4
              cases h4
          · have hk' : k = t.rels.length := by omega
            subst hk'
            have ha := hall.out
            rw [List.take_length] at ha
            have HE := Lib.hid (HT.out.1.2 (by rw [gT_of HTg.out]; exact ha))
            have HB := Lib.hid (H1.out.1.trans (hb.mono H1.out.1.size))
            clear ha hall hb
            go_wp2_with fail
            go_roundw
            case rel => exact ⟨j + 1, by omega, by go_num, HE, HB.out⟩
            case measure => simp [intOf]; omega
      · have hj' : j = l.length := by omega
        subst hj'
        have HB := Lib.hid (H2.out.1.trans (hb.mono H2.out.1.size))
        have HK := Lib.hid (And.intro ((hb.block _ (Array.getElem?_eq_some_iff.1 H2.out.2.1).1).trans H2.out.2.1) (H2.out.2.2.below hb))
        clear hb hall H2
        have b0 := box1 HK.out.1
        go_wp2_with fail
        refine (HR.out _).mono ?_
        rintro e x6 ⟨rv, rfl, hro, hx⟩
        obtain ⟨o6, c6, rfl⟩ := own_slice hro
        have H7 := Lib.hid (And.intro (HB.out.trans (hx.mono HB.out.size)) (And.intro ((hx.block _ (Array.getElem?_eq_some_iff.1 HK.out.1).1).trans HK.out.1) (HK.out.2.below hx)))
        clear hx HB HK b0 hro HR
        have hrl := HRL.out
        by_cases h3 : (prC l).length ≤ 3000
        · have hq := HQ.out h3
          have h4 : rs.length ≤ 3000 := by omega
          clear h3 hrl
          go_wp2_with fail
          refine (HX3.out _ H7.out.1).mono ?_
          rintro e x7 ⟨v1, rfl, hv1, hx⟩
          have hi1 : IsCf x7 (parseA (bs (prC l))).1 v1 := CfS.is hv1
          rw [hq.2] at hi1
          rw [hq.1]
          clear hv1 hq
          generalize (parseA (bs (prC l))).2.1 = pp at *
          obtain ⟨pl, pm⟩ := pp
          simp only [plV]
          obtain ⟨o5, c5, us5, rfl, -⟩ := id hi1
          obtain ⟨q1, q2, q3, q4⟩ := two_boxes x7 #[.slice o5 l.length c5] #[.int .i64 pl, .int .i64 pm] tCf tPl
          have hb7 := H7.out.1.trans (hx.mono H7.out.1.size)
          have hk7 := (hx.block _ (Array.getElem?_eq_some_iff.1 H7.out.2.1).1).trans H7.out.2.1
          have H8 := Lib.hid (And.intro (hb7.trans (q1.mono hb7.size)) (And.intro ((q1.block _ (Array.getElem?_eq_some_iff.1 hk7).1).trans hk7) (And.intro q2 (And.intro ((H7.out.2.2.below hx).below q1) (hi1.below q1)))))
          clear hx H7 HX3 HQ hi1 q1 q2 q3 q4 hb7 hk7
          have HP2 := Lib.hid (HP.out _ _ H8.out.2.2.2.2)
          have b1 := box1 H8.out.2.2.1
          go_wp2_with fail
          refine HP2.out.mono ?_
          rintro e x8 ⟨hx, ⟨hc2, -⟩ | ⟨-, rfl⟩⟩
          · exfalso
            have := HC.out
            rw [hc2] at this
            cases this
          have H9 := Lib.hid (And.intro (H8.out.1.trans (hx.mono H8.out.1.size)) (And.intro ((hx.block _ (Array.getElem?_eq_some_iff.1 H8.out.2.1).1).trans H8.out.2.1) (And.intro ((hx.block _ (Array.getElem?_eq_some_iff.1 H8.out.2.2.1).1).trans H8.out.2.2.1) (And.intro (H8.out.2.2.2.1.below hx) (H8.out.2.2.2.2.below hx)))))
          clear hx H8 HP2 b1
          have HS2 := Lib.hid (samecfg_any HFit.out H9.out.2.2.2.1 H9.out.2.2.2.2)
          have b0 := box1 H9.out.2.1
          have b1 := box1 H9.out.2.2.1
          have hbe := HBe.out
          go_wp2_with fail
          refine HS2.out.mono ?_
          rintro e x9 ⟨rfl, hx⟩
          have H10 := Lib.hid (H9.out.1.trans (hx.mono H9.out.1.size))
          clear hx H9
          go_wp2_with fail
          go_ret
          exact ⟨rfl, H10.out⟩
        · have h4 : 3000 < rs.length := by omega
          clear h3 hrl
          go_wp2_with fail
          go_ret
          exact ⟨rfl, H7.out.1⟩
set_option maxHeartbeats 4000000 in
set_option maxRecDepth 100000 in
theorem early (s : ByteArray) (w : World) (h : 2000 < s.size) :
    Calls Tryz.prog 4 #[.string s] w fun e y => e = .returned (.bool true) ∧ Below w.heap.size w y := by
  have HA := Lib.hid (fun x => awake_any x)
  have e1 : decide ((2000 : Int) < (s.size : Int)) = true := by simp; omega
  clear h
  go_enter Tryz.func4, Tryz.ntmps4
  go_wp2_with fail
  refine (HA.out _).mono ?_
  rintro e w1 ⟨rfl, b1⟩
  have HB1 := Lib.hid b1
  clear b1
  go_wp2_with fail
  refine (HA.out _).mono ?_
  rintro e w2 ⟨rfl, b2⟩
  go_wp2_with fail
  go_ret
  exact ⟨rfl, HB1.out.trans (b2.mono HB1.out.size)⟩
/-- The statement's walk. -/
theorem walk (s : ByteArray) (w : World) (_hs : s.size ≤ maxLen) {a0 a1 : Addr} (hg : Glob a0 a1 w) :
    Calls Tryz.prog 4 #[.string s] w fun e y => e = .returned (.bool true) ∧ Below w.heap.size w y := by
  by_cases g1 : 2000 < s.size
  · exact early s w g1
  · exact main s w (by omega) hg
end LawC8One
end Go.Proofs.YtdlfbikpniionaaGreatDoor
