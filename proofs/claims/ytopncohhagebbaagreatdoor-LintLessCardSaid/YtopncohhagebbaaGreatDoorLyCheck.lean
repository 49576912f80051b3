/-
  Layer 9's program: Check answers by the document.
-/
import Derived.Test.YtopncohhagebbaaGreatDoorLgD
import Derived.Test.YtopncohhagebbaaGreatDoorCnGood
namespace Go.Proofs.YtopncohhagebbaaGreatDoor
open Go.RowKit
namespace Ly
open Tr (own_open own_slice own_below own_turn IsElem Nd refs)
open Gr (Ty Rl box1 box2 two_boxes Lies IsTy IsCf tCf)
open Cn (box3 gC Good_any)
open Knot (Turns)
open Lt (It Re relsL relsT webL stepsOf Line PiMem namesP fine_of Fine tied_of Tied edge CheckOut CkPost Rnd Way Pth)

theorem names_short {l : List Ty} (hw : Wd l) : (namesP l).1.size ≤ 16 ∧ (namesP l).2.1.size ≤ 16 := by
  have hrels : ∀ (t : Ty), t ∈ l → ∀ (m : List Rl) (i : Nat), (∀ r ∈ m, r ∈ t.rels) → (Lt.relsP l t i m).1.size ≤ 16 ∧ (Lt.relsP l t i m).2.1.size ≤ 16 := fun t ht m => by
    induction m with
    | nil => exact fun i _ => ⟨show Tr.none0.size ≤ 16 by decide, show Tr.none0.size ≤ 16 by decide⟩
    | cons r m ih =>
      intro i hm
      rw [Lt.relsP]
      split
      · exact ⟨hw.ty t ht, (hw.rel t ht r (hm r (by simp))).1⟩
      · exact ih (i + 1) fun x hx => hm x (by simp [hx])
  have htype : ∀ (t : Ty) (i : Nat), t ∈ l → (Lt.typeP l i t).1.size ≤ 16 ∧ (Lt.typeP l i t).2.1.size ≤ 16 := fun t i ht => by
    unfold Lt.typeP
    split
    · exact ⟨hw.ty t ht, show Tr.none0.size ≤ 16 by decide⟩
    · split
      · exact ⟨hw.ty t ht, show Tr.none0.size ≤ 16 by decide⟩
      · exact hrels t ht t.rels 0 fun _ h => h
  have hall : ∀ (m : List Ty) (i : Nat), (∀ t ∈ m, t ∈ l) → (Lt.typesW l i m).1.size ≤ 16 ∧ (Lt.typesW l i m).2.1.size ≤ 16 := fun m => by
    induction m with
    | nil => exact fun i _ => ⟨show Tr.none0.size ≤ 16 by decide, show Tr.none0.size ≤ 16 by decide⟩
    | cons t m ih =>
      intro i hm
      rw [Lt.typesW]
      split
      · exact htype t i (hm t (by simp))
      · exact ih (i + 1) fun x hx => hm x (by simp [hx])
  unfold namesP
  split
  · exact ⟨by decide, by decide⟩
  · exact hall l 0 fun _ h => h
theorem web_lens {l : List Ty} (hw : Wd l) (hf : Fine l) (k : Nat) : ((webL (relsL l)).getD k []).length ≤ 100000 := by
  rw [List.getD_eq_getElem?_getD, webL, List.getElem?_map]
  cases h : (relsL l)[k]? with
  | none => simp
  | some x =>
    have hm := List.mem_of_getElem? h
    have hs1 := Nat.le_trans (thisUpto_len (relsL l) x.2 (j := 2) (by omega)) (Nat.mul_le_mul_left 2 (allow_small hf _ hm))
    have hs2 := refsSteps_len (relsL l) x.1.1 1000 (refs x.2.expr false) fun y _ => ledTo_len (allow_small hf)
    have hs3 := Nat.le_trans (Tr.refs_len x.2.expr false) (hw.mem hm).2.2.2.2.2.2
    rw [thisUpto_all] at hs1
    have : (refs x.2.expr false).length * 1000 ≤ 24 * 1000 := Nat.mul_le_mul_right _ hs3
    show (stepsOf (relsL l) x).length ≤ 100000
    unfold stepsOf
    rw [List.length_append]
    omega
theorem empty_mem (B : Nat) (x : World) (S : Nat → Int) : PiMem B x (.slice none 0 0) [] S 0 := ⟨none, 0, rfl, fun h => absurd rfl h⟩
set_option maxHeartbeats 16000000 in
set_option maxRecDepth 100000 in
theorem check_ok : Lt.CheckOk := fun l v w h hsh hsc hz hn => by
  have HG := Lib.hid (fun x (hb : Below w.heap.size w x) => Good_any l v x (h.below hb))
  obtain ⟨ao, cap, us, rfl, hl⟩ := h
  obtain ⟨q1, q2, q3, q4⟩ := two_boxes w #[.slice ao l.length cap] #[.string ⟨#[]⟩, .string ⟨#[]⟩] tCf tSpot
  have H0 := Lib.hid (And.intro q1 (And.intro q2 (And.intro q3 q4)))
  have HL := Lib.hid (And.intro hl hn)
  clear hl hn hsh hsc hz q1 q2 q3 q4
  unfold CkPost
  go_enter Tryz.func11, Tryz.ntmps11
  go_upto_region 1 with fail
  generalize (w.alloc (.cells #[.slice ao l.length cap] tCf)).alloc (.cells #[.string ⟨#[]⟩, .string ⟨#[]⟩] tSpot) = X at *
  have a0 := box1 H0.out.2.1
  have HGX := Lib.hid (HG.out X H0.out.1)
  have hsx := H0.out.2.2.2
  cases hg : gC l with
  | false =>
    rw [hg] at HGX
    have HE := Lib.hid hg
    clear hg
    go_wp2_with fail
    refine HGX.out.mono ?_
    rintro e x ⟨rfl, hx⟩
    have hkR := (hx.block _ (by omega)).trans H0.out.2.2.1
    have HX := Lib.hid (H0.out.1.trans (hx.mono H0.out.1.size))
    clear hx a0
    obtain ⟨e0, e1, f0, f1⟩ := box2s hkR
    go_wp2_with fail
    change bodyPost _ _ _ _ _ (set2 x (w.heap.size + 1) ⟨#[]⟩ ⟨#[]⟩)
    have hkF := set2_heap (a' := ⟨#[]⟩) (b' := ⟨#[]⟩) hkR
    have htF := set2_turns x (w.heap.size + 1) ⟨#[]⟩ ⟨#[]⟩
    have HF := Lib.hid (show Below w.heap.size w (set2 x (w.heap.size + 1) ⟨#[]⟩ ⟨#[]⟩) from HX.out.trans (htF.below HX.out.size fun k e => by omega))
    generalize set2 x (w.heap.size + 1) ⟨#[]⟩ ⟨#[]⟩ = F at *
    obtain ⟨g0, g1⟩ := box2 hkF
    refine bodyPost_ret (v := .tuple #[.slice none 0 0, .agg #[.string ⟨#[]⟩, .string ⟨#[]⟩], .int .i64 2]) (by simp [results, Tryz.results11, go_sem, g0, g1]) rfl ⟨_, ⟨#[]⟩, ⟨#[]⟩, 2, fun _ => 0, [], rfl, .inl ⟨HE.out, rfl, rfl, rfl, rfl⟩, empty_mem _ _ _, HF.out⟩
  | true =>
  rw [hg] at HGX
  have hwd := wd_of hg
  have HW := Lib.hid (And.intro hg hwd)
  have hns := names_short hwd
  clear hg
  go_wp2_with fail
  refine HGX.out.mono ?_
  rintro e x1 ⟨rfl, hx⟩
  have H1 := Lib.hid (show Below w.heap.size w x1 ∧ x1.heap[w.heap.size]? = _ ∧ x1.heap[w.heap.size + 1]? = _ from ⟨H0.out.1.trans (hx.mono H0.out.1.size), (hx.block _ (by omega)).trans H0.out.2.1, (hx.block _ (by omega)).trans H0.out.2.2.1⟩)
  have HS1 := Lib.hid (show w.heap.size + 2 ≤ x1.heap.size from by have := hx.size; omega)
  have HLd := Lib.hid (laid_any l hwd ao cap us x1 (HL.out.1.on H1.out.1 fun _ _ h => h.below H1.out.1) HL.out.2)
  clear hx a0 HGX HG hsx hwd
  have a0 := box1 H1.out.2.1
  go_wp2_with fail
  refine HLd.out.mono ?_
  rintro e x2 ⟨ro, rc, b, rfl, hlay, hx⟩
  have alL := Tr.fresh_one x2 (.cells #[.slice ao l.length cap, .slice ro (relsL l).length rc, .map (some b)] tLay)
  have hkL := heap_alloc_new x2 (.cells #[.slice ao l.length cap, .slice ro (relsL l).length rc, .map (some b)] tLay)
  have hx2s := hx.size
  have H2 := Lib.hid (show Below w.heap.size w (x2.alloc (.cells #[.slice ao l.length cap, .slice ro (relsL l).length rc, .map (some b)] tLay)) ∧ (x2.alloc (.cells #[.slice ao l.length cap, .slice ro (relsL l).length rc, .map (some b)] tLay)).heap[w.heap.size + 1]? = _ ∧ (x2.alloc (.cells #[.slice ao l.length cap, .slice ro (relsL l).length rc, .map (some b)] tLay)).heap[x2.heap.size]? = _ ∧ LayAt (x2.alloc (.cells #[.slice ao l.length cap, .slice ro (relsL l).length rc, .map (some b)] tLay)) l ao ro rc b ∧ w.heap.size + 2 ≤ x2.heap.size from
    ⟨H1.out.1.trans ((hx.trans (alL.mono hx.size)).mono H1.out.1.size), (alL.block _ (by have := HS1.out; omega)).trans ((hx.block _ (by have := HS1.out; omega)).trans H1.out.2.2), hkL, hlay.below alL, by have := HS1.out; omega⟩)
  have HFt := Lib.hid (fault_any (cap := cap) HW.out.2 _ H2.out.2.2.2.1)
  clear a0 HLd hlay hx alL hkL hx2s H1 HS1
  go_upto_region 4 with fail
  generalize x2.alloc (.cells #[.slice ao l.length cap, .slice ro (relsL l).length rc, .map (some b)] tLay) = Y2 at *
  generalize x2.heap.size = bL at *
  obtain ⟨b0, b1, b2⟩ := box3 H2.out.2.2.1
  obtain ⟨sp, sn, code, hnm⟩ : ∃ a b c, namesP l = (a, b, c) := ⟨_, _, _, rfl⟩
  rw [hnm] at HFt hns
  have HNM := Lib.hid hnm
  clear hnm
  go_wp2_with fail
  refine HFt.out.mono ?_
  rintro e x3 ⟨rfl, hx⟩
  have alS := Tr.fresh_one x3 (.cells #[.string sp, .string sn] tSpot)
  have hkS := heap_alloc_new x3 (.cells #[.string sp, .string sn] tSpot)
  have hbl2 := (Array.getElem?_eq_some_iff.1 H2.out.2.2.1).1
  have hxx := hx.trans (alS.mono hx.size)
  have H3 := Lib.hid (show Below w.heap.size w (x3.alloc (.cells #[.string sp, .string sn] tSpot)) ∧ (x3.alloc (.cells #[.string sp, .string sn] tSpot)).heap[w.heap.size + 1]? = _ ∧ (x3.alloc (.cells #[.string sp, .string sn] tSpot)).heap[bL]? = _ ∧ LayAt (x3.alloc (.cells #[.string sp, .string sn] tSpot)) l ao ro rc b ∧ (x3.alloc (.cells #[.string sp, .string sn] tSpot)).heap[x3.heap.size]? = _ from
    ⟨H2.out.1.trans (hxx.mono H2.out.1.size), (hxx.block _ (by have := H2.out; omega)).trans H2.out.2.1, (hxx.block _ hbl2).trans H2.out.2.2.1, H2.out.2.2.2.1.below hxx, hkS⟩)
  have hsz3 : w.heap.size + 2 ≤ (x3.alloc (.cells #[.string sp, .string sn] tSpot)).heap.size := by have := H2.out.2.2.2.2; have := hxx.size; omega
  have HSZ := Lib.hid (And.intro hsz3 H2.out.2.2.2.2)
  clear b0 b1 b2 HFt hx alS hkS hxx hbl2 hsz3 H2
  go_upto_region 5 with fail
  generalize x3.alloc (.cells #[.string sp, .string sn] tSpot) = Y3 at *
  generalize x3.heap.size = bS at *
  obtain ⟨c0, c1⟩ := box2 H3.out.2.2.2.2
  by_cases hc : code = 0
  · subst hc
    have hz : (namesP l).2.2 = 0 := by rw [HNM.out]
    have hfine := fine_of hz
    have htied := tied_of hfine fun x hx => (HW.out.2.mem hx).2.2.1
    have HT := Lib.hid (And.intro hfine (And.intro htied hz))
    have HWb := Lib.hid (web_any (cap := cap) HW.out.2 hfine _ H3.out.2.2.2.1)
    obtain ⟨b0, b1, b2⟩ := box3 H3.out.2.2.1
    have hlen48 := hfine.len
    have hbig : (relsL l).length ≤ 9223372036854775807 := by omega
    clear hz hfine htied c0 c1
    go_wp2_with fail
    refine HWb.out.mono ?_
    rintro e x4 ⟨g, rfl, hgl, hweb, hx⟩
    have H4 := Lib.hid (show Below w.heap.size w x4 ∧ x4.heap[w.heap.size + 1]? = _ ∧ x4.heap[bL]? = _ ∧ LayAt x4 l ao ro rc b ∧ WebAt x4 g (webL (relsL l)) ∧ w.heap.size + 2 ≤ x4.heap.size ∧ bL < x4.heap.size from
      ⟨H3.out.1.trans (hx.mono H3.out.1.size), (hx.block _ (by have := HSZ.out; omega)).trans H3.out.2.1, (hx.block _ (Array.getElem?_eq_some_iff.1 H3.out.2.2.1).1).trans H3.out.2.2.1, H3.out.2.2.2.1.below hx, hweb, by have := HSZ.out; have := hx.size; omega, Nat.lt_of_lt_of_le (Array.getElem?_eq_some_iff.1 H3.out.2.2.1).1 hx.size⟩)
    clear b0 b1 b2 HWb hgl hweb hx H3
    obtain ⟨b0, b1, b2⟩ := box3 H4.out.2.2.1
    go_wp2_with fail
    clear b0 b1 b2
    go_loopw [32] (fun i wr => ∃ k : Nat, k ≤ (relsL l).length ∧ i = .int .i64 k ∧ Hid (Below x4.heap.size x4 wr ∧ ∀ j, j < k → ¬ Rnd (Lt.items l).length (edge l) j)) (fun i _ => (relsL l).length - (intOf i).toNat)
    case atStart => exact ⟨0, by omega, rfl, Lib.hid ⟨Below.refl _ _, fun j hj => absurd hj (Nat.not_lt_zero _)⟩⟩
    case round =>
      obtain ⟨k, hk, rfl, HK⟩ := hrel
      have hbw : Below w.heap.size w wr := H4.out.1.trans (HK.out.1.mono H4.out.1.size)
      by_cases hlt : k < (relsL l).length
      · obtain ⟨rvs, hrels⟩ := H4.out.2.2.2.1.rels
        obtain ⟨g2, q2, vo, vc, no, nc, ev, us2, hix, hg2, ⟨c0, c1, c2, c3, c4, c5, c6, c7, c8⟩, hla, hex⟩ := re_at hrels rc hlt
        obtain ⟨et, eu, rfl⟩ := hex.iface
        have hmem := HW.out.2.mem (List.getElem_mem hlt)
        have hb4 := HK.out.1
        replace c0 := (hb4.cell (p := ⟨g2, q2, none⟩) hg2).trans c0
        replace c1 := (hb4.cell (p := ⟨g2, q2 + 1, none⟩) hg2).trans c1
        replace c2 := (hb4.cell (p := ⟨g2, q2 + 2, none⟩) hg2).trans c2
        replace c3 := (hb4.cell (p := ⟨g2, q2 + 3, none⟩) hg2).trans c3
        replace c4 := (hb4.cell (p := ⟨g2, q2 + 4, none⟩) hg2).trans c4
        replace c5 := (hb4.cell (p := ⟨g2, q2 + 5, none⟩) hg2).trans c5
        replace c6 := (hb4.cell (p := ⟨g2, q2 + 6, none⟩) hg2).trans c6
        replace c7 := (hb4.cell (p := ⟨g2, q2 + 7, none⟩) hg2).trans c7
        replace c8 := (hb4.cell (p := ⟨g2, q2 + 8, none⟩) hg2).trans c8
        have hit : (Lt.items l)[k]? = some (relsL l)[k].1 := by rw [Lt.items_rels, List.getElem?_map, List.getElem?_eq_getElem hlt]; rfl
        have hnn : (Lt.items l).length = (relsL l).length := (Lt.relsL_len l).symm
        generalize hrr : (relsL l)[k] = rr at *
        have hkB := heap_alloc_new wr (.cells (reC rr.1.1 rr.1.2 rr.2.name (.slice vo rr.2.allow.length vc) rr.2.expr.kind rr.2.expr.ta rr.2.expr.tb (.slice no rr.2.expr.kids.length nc) (.iface et eu)) tRe)
        have alB := Tr.fresh_one wr (.cells (reC rr.1.1 rr.1.2 rr.2.name (.slice vo rr.2.allow.length vc) rr.2.expr.kind rr.2.expr.ta rr.2.expr.tb (.slice no rr.2.expr.kids.length nc) (.iface et eu)) tRe)
        have HP := Lib.hid (show Below x4.heap.size x4 (wr.alloc (.cells (reC rr.1.1 rr.1.2 rr.2.name (.slice vo rr.2.allow.length vc) rr.2.expr.kind rr.2.expr.ta rr.2.expr.tb (.slice no rr.2.expr.kids.length nc) (.iface et eu)) tRe)) ∧ (wr.alloc (.cells (reC rr.1.1 rr.1.2 rr.2.name (.slice vo rr.2.allow.length vc) rr.2.expr.kind rr.2.expr.ta rr.2.expr.tb (.slice no rr.2.expr.kids.length nc) (.iface et eu)) tRe)).heap[wr.heap.size]? = _ from ⟨hb4.trans (alB.mono hb4.size), hkB⟩)
        have HTn := Lib.hid (turns_any (webL (relsL l)) (relsL l).length k (by rw [HT.out.2.1.len, Lt.relsL_len]) hlen48 hlt (fun i s hs => by have := (HT.out.2.1.lt (o := s.2) (k := s.1) hs).2; omega) (web_lens HW.out.2 HT.out.1) g _ (H4.out.2.2.2.2.1.below HP.out.1))
        have HR := Lib.hid (show (Rnd (Lt.items l).length (edge l) k ↔ Pth (webL (relsL l)) k k true) ∧ _ ∧ _ from ⟨HT.out.2.1.rnd k, hit, hmem⟩)
        clear hrels hla hex hg2 hkB alB hmem hb4 hit hnn hbw
        go_upto_region 11 with fail
        clear c0 c1 c2 c3 c4 c5 c6 c7 c8
        generalize wr.alloc (.cells (reC rr.1.1 rr.1.2 rr.2.name (.slice vo rr.2.allow.length vc) rr.2.expr.kind rr.2.expr.ta rr.2.expr.tb (.slice no rr.2.expr.kids.length nc) (.iface et eu)) tRe) = P at *
        generalize wr.heap.size = bR at *
        go_wp2_with fail
        refine HTn.out.mono ?_
        rintro e x5 ⟨bb, rfl, hbb, hx⟩
        have H5 := Lib.hid (show Below x4.heap.size x4 x5 ∧ x5.heap[bR]? = _ from ⟨HP.out.1.trans (hx.mono HP.out.1.size), (hx.block _ (Array.getElem?_eq_some_iff.1 HP.out.2).1).trans HP.out.2⟩)
        clear hx HTn
        cases bb
        · have hno : ¬ Rnd (Lt.items l).length (edge l) k := fun h => Bool.noConfusion (hbb.2 (HR.out.1.1 h))
          have HNo := Lib.hid (show ∀ j, j < k + 1 → ¬ Rnd (Lt.items l).length (edge l) j from fun j hj => by rcases Nat.lt_succ_iff_lt_or_eq.1 hj with h | h; exact HK.out.2 j h; exact h ▸ hno)
          clear hbb hno
          go_wp2_with fail
          go_roundw
          case rel => exact ⟨k + 1, by omega, by go_num, Lib.hid ⟨H5.out.1, HNo.out⟩⟩
          case measure => simp [intOf]; omega
        · have HE := Lib.hid (show CheckOut l (fun _ => 0) rr.1.1 rr.1.2 16 [] from .inr (.inr (.inl ⟨HW.out.1, HT.out.2.2, rfl, rfl, k, rr.1, HR.out.2.1, rfl, rfl, HR.out.1.2 (hbb.1 rfl), HK.out.2⟩)))
          clear hbb
          have hkP := H5.out.2
          have HCp := Lib.hid (copiedSpot_any rr.1.1 rr.1.2 HR.out.2.2.1 HR.out.2.2.2.1 x5)
          obtain ⟨d0, d1, -⟩ := box9 hkP
          clear hkP
          go_wp2_with fail
          refine HCp.out.mono ?_
          rintro e x6 ⟨rfl, hx⟩
          have hb6 : Below x4.heap.size x4 x6 := H5.out.1.trans (hx.mono H5.out.1.size)
          have hkR := (hb6.block _ (by have := H4.out.2.2.2.2.2.1; omega)).trans H4.out.2.1
          have HB := Lib.hid (H4.out.1.trans (hb6.mono H4.out.1.size))
          clear hx hb6 d0 d1
          obtain ⟨e0, e1, f0, f1⟩ := box2s hkR
          go_wp2_with fail
          change bodyPost _ _ _ _ _ (set2 x6 (w.heap.size + 1) rr.1.1 rr.1.2)
          have hkF := set2_heap (a' := rr.1.1) (b' := rr.1.2) hkR
          have htF := set2_turns x6 (w.heap.size + 1) rr.1.1 rr.1.2
          have HF := Lib.hid (show Below w.heap.size w (set2 x6 (w.heap.size + 1) rr.1.1 rr.1.2) from (HB.out).trans (htF.below (HB.out).size fun k e => by omega))
          generalize set2 x6 (w.heap.size + 1) rr.1.1 rr.1.2 = F at *
          obtain ⟨g0, g1⟩ := box2 hkF
          refine bodyPost_ret (v := .tuple #[.slice none 0 0, .agg #[.string rr.1.1, .string rr.1.2], .int .i64 16]) (by simp [results, Tryz.results11, go_sem, g0, g1]) rfl ⟨_, rr.1.1, rr.1.2, 16, fun _ => 0, [], rfl, HE.out, empty_mem _ _ _, HF.out⟩
      · have hk' : k = (relsL l).length := by omega
        subst hk'
        have hnn : (Lt.items l).length = (relsL l).length := (Lt.relsL_len l).symm
        have hty : Tied (webL (relsL l)) (relsL l).length (edge l) := hnn ▸ HT.out.2.1
        have hcalm : Lt.Calm (relsL l).length (edge l) := fun v L hv => Classical.byContradiction fun hL => HK.out.2 v hv.lt.1 ⟨L, by rw [hnn]; exact hv, hL⟩
        have HSt := Lib.hid (strata_any (webL (relsL l)) (relsL l).length (edge l) hty hcalm hlen48 (web_lens HW.out.2 HT.out.1) g)
        have HN := Lib.hid (And.intro hnn HK.out.2)
        have HE0 := Lib.hid (show Below x4.heap.size x4 wr from HK.out.1)
        have hr1 : w.heap.size + 1 < x4.heap.size := by have := H4.out.2.2.2.2.2.1; omega
        have HX := Lib.hid (show ∀ x, Turns (fun i => i = w.heap.size + 1) wr.drew x → x.cell? ⟨bL, 0, none⟩ = some (.slice ao l.length cap) ∧ x.cell? ⟨bL, 1, none⟩ = some (.slice ro (relsL l).length rc) ∧ x.cell? ⟨bL, 2, none⟩ = some (.map (some b)) from fun x hx => by
          have ht : Turns (fun i => i = w.heap.size + 1) wr x := Turns.after_below (F := fun i => i = w.heap.size + 1) ((Below.refl wr.heap.size wr).drew) hx
          exact box3 (ht.heap ((HE0.out.block _ H4.out.2.2.2.2.2.2).trans H4.out.2.2.1) (by have := HSZ.out.2; omega)))
        clear hnn hty hcalm HK hbw hlt
        go_wp2_with fail
        refine Order.region_begin (S := Turns (fun i => i = w.heap.size + 1) wr.drew) (by kernel_rfl) ?_
        refine Order.reads_any (idx := [0, 1, 4]) (by kernel_rfl) (Turns.refl _ _) (fun _ _ _ _ _ h => Order.noPanic_put h) 5 _ _ (by decide +kernel) ?_
        simp only [Order.pick, List.getElem?_toArray, List.getElem?_cons_zero, List.getElem?_cons_succ]
        repeat (first
          | (refine Order.reads_off (by rfl) ?_
             simp only [Act.put, List.setIfInBounds_toArray, List.set_cons_zero, List.set_cons_succ])
          | (apply Order.reads_on
             · rfl
             · intro x hx
               first
                 | (go_simp; rfl)
                 | (obtain ⟨i1, i2, i3⟩ := HX.out x hx
                    go_simp; rfl)
             simp only [Act.put, List.setIfInBounds_toArray, List.set_cons_zero, List.set_cons_succ]))
        refine Order.reads_end ?_
        apply Order.acts_any (R := (Turns (fun i => i = w.heap.size + 1))) (fun h k => h.trans k fun _ _ h => h) (i := 2)
        · rfl
        · decide +kernel
        · rfl
        unfold Oper.wp
        go_simp
        have HD := Lib.hid (show Below x4.heap.size x4 wr.drew from HE0.out.trans ((Below.refl _ _).drew.mono HE0.out.size))
        refine Calls.mono (HSt.out _ (H4.out.2.2.2.2.1.below HD.out)) ?_
        rintro e x5 ⟨g0, S, rfl, hline, hstr, hx⟩
        refine ⟨Turns.of_below hx, ?_⟩
        have HV5 := Lib.hid (show Below x4.heap.size x4 x5 ∧ (∀ i, i < (relsL l).length → Lt.IsStr (relsL l).length (edge l) i (S i)) from ⟨HD.out.trans (hx.mono HD.out.size), hstr⟩)
        have HIt := Lib.hid (items_any (cap := cap) HW.out.2 x5 (H4.out.2.2.2.1.below HV5.out.1) (by omega) g0 _ hline)
        clear hline hstr hx HSt
        apply Order.acts_any (R := (Turns (fun i => i = w.heap.size + 1))) (fun h k => h.trans k fun _ _ h => h) (i := 3)
        · rfl
        · decide +kernel
        · rfl
        unfold Oper.wp
        go_simp
        refine Calls.mono HIt.out ?_
        rintro e x6 ⟨u, rfl, hpi, hx⟩
        refine ⟨Turns.of_below hx, ?_⟩
        have HV6 := Lib.hid (show Below x4.heap.size x4 x6 ∧ PiMem x5.heap.size x6 u (Lt.items l) (fun k => ((S k : Nat) : Int)) 0 ∧ x4.heap.size ≤ x5.heap.size from ⟨HV5.out.1.trans (hx.mono HV5.out.1.size), hpi, HV5.out.1.size⟩)
        clear hx hpi HIt HX
        refine Order.reads_any (idx := [5]) (by kernel_rfl) (Turns.refl _ _) (fun _ _ _ _ _ h => Order.noPanic_put h) 2 _ _ (by decide +kernel) ?_
        simp only [Order.pick, List.getElem?_toArray, List.getElem?_cons_zero, List.getElem?_cons_succ]
        repeat (first
          | (refine Order.reads_off (by rfl) ?_
             simp only [Act.put, List.setIfInBounds_toArray, List.set_cons_zero, List.set_cons_succ])
          | (apply Order.reads_on
             · rfl
             · intro x hx
               first
                 | (go_simp; rfl)
                 | (fail
                    go_simp; rfl)
             simp only [Act.put]))
        refine Order.reads_end ?_
        have hk6 := (HV6.out.1.block _ hr1).trans H4.out.2.1
        simp only [List.setIfInBounds_toArray, List.set_cons_zero, List.set_cons_succ]
        apply Order.acts_any (R := (Turns (fun i => i = w.heap.size + 1))) (fun h k => h.trans k fun _ _ h => h) (i := 6)
        · rfl
        · decide +kernel
        · rfl
        simp only [List.getElem_toArray, List.getElem_cons_succ, List.getElem_cons_zero]
        refine wp_fill tSpot (.tmp 3) (.tmp 48) rfl (cells := #[.string ⟨#[]⟩, .string ⟨#[]⟩]) (by rfl) (by rfl) hk6 info_spot rfl (spot_one ⟨#[]⟩ ⟨#[]⟩) ?_
        intro Z hZ htZ
        refine ⟨htZ, ?_⟩
        have hb6 := H4.out.1.trans (HV6.out.1.mono H4.out.1.size)
        have HF := Lib.hid (show Z.heap[w.heap.size + 1]? = some (.cells #[.string ⟨#[]⟩, .string ⟨#[]⟩] tSpot (0, 0)) ∧ Below w.heap.size w Z ∧ PiMem w.heap.size Z u (Lt.items l) (fun k => ((S k : Nat) : Int)) 0 from ⟨hZ, hb6.trans (htZ.below hb6.size fun k e => by omega), by
          obtain ⟨ao', cap', e, hh⟩ := HV6.out.2.1
          exact ⟨ao', cap', e, fun hne => by
            obtain ⟨g', cur', e', hB, hk', hr⟩ := hh hne
            have := HV6.out.2.2
            exact ⟨g', cur', e', by omega, htZ.heap hk' (by omega), hr⟩⟩⟩)
        have HE := Lib.hid (show CheckOut l (fun k => ((S k : Nat) : Int)) ⟨#[]⟩ ⟨#[]⟩ 0 (Lt.items l) from .inr (.inr (.inr ⟨HW.out.1, HT.out.2.2, rfl, rfl, rfl, rfl, fun i hi => HN.out.2 i (by have := HN.out.1; omega), fun i hi => ⟨S i, rfl, by
          have h := HV5.out.2 i (by have := HN.out.1; omega)
          rw [← HN.out.1] at h
          exact h⟩⟩)))
        clear hZ htZ hk6 hb6
        refine Order.reads_any (idx := [7]) (by kernel_rfl) (Turns.refl _ _) (fun _ _ _ _ _ h => Order.noPanic_put h) 0 _ _ (by decide +kernel) ?_
        simp only [Order.pick, List.getElem?_toArray, List.getElem?_cons_zero, List.getElem?_cons_succ]
        repeat (first
          | (refine Order.reads_off (by rfl) ?_
             simp only [Act.put, List.setIfInBounds_toArray, List.set_cons_zero, List.set_cons_succ])
          | (apply Order.reads_on
             · rfl
             · intro x hx
               first
                 | (go_simp; rfl)
                 | (fail
                    go_simp; rfl)
             simp only [Act.put]))
        refine Order.reads_end ?_
        refine wpAnyH_done (by decide +kernel) ?_ _
        refine NoPanic.normal ?_
        obtain ⟨g0', g1'⟩ := box2 HF.out.1
        go_wp2_with fail
        refine bodyPost_ret (v := .tuple #[u, .agg #[.string ⟨#[]⟩, .string ⟨#[]⟩], .int .i64 0]) (by simp [results, Tryz.results11, go_sem, g0', g1']) rfl ⟨u, ⟨#[]⟩, ⟨#[]⟩, 0, _, _, rfl, HE.out, HF.out.2.2, HF.out.2.1⟩
  · have hne : (code != 0) = true := by simpa using hc
    have HE := Lib.hid (show CheckOut l (fun _ => 0) sp sn code [] from .inr (.inl ⟨HW.out.1, by rw [HNM.out]; exact hc, rfl, by rw [HNM.out], by rw [HNM.out], by rw [HNM.out]⟩))
    have HCp := Lib.hid (copiedSpot_any sp sn hns.1 hns.2 Y3)
    clear hc
    go_wp2_with fail
    refine HCp.out.mono ?_
    rintro e x4 ⟨rfl, hx⟩
    have hkR := (hx.block _ (by have := HSZ.out; omega)).trans H3.out.2.1
    have HB := Lib.hid (H3.out.1.trans (hx.mono H3.out.1.size))
    clear hx c0 c1
    obtain ⟨e0, e1, f0, f1⟩ := box2s hkR
    go_wp2_with fail
    change bodyPost _ _ _ _ _ (set2 x4 (w.heap.size + 1) sp sn)
    have hkF := set2_heap (a' := sp) (b' := sn) hkR
    have htF := set2_turns x4 (w.heap.size + 1) sp sn
    have HF := Lib.hid (show Below w.heap.size w (set2 x4 (w.heap.size + 1) sp sn) from (HB.out).trans (htF.below (HB.out).size fun k e => by omega))
    generalize set2 x4 (w.heap.size + 1) sp sn = F at *
    obtain ⟨g0, g1⟩ := box2 hkF
    refine bodyPost_ret (v := .tuple #[.slice none 0 0, .agg #[.string sp, .string sn], .int .i64 code]) (by simp [results, Tryz.results11, go_sem, g0, g1]) rfl ⟨_, sp, sn, code, fun _ => 0, [], rfl, HE.out, empty_mem _ _ _, HF.out⟩
end Ly
end Go.Proofs.YtopncohhagebbaaGreatDoor
