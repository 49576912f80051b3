/-
  Layer 10: the statement CaskPacks, walked.
-/
import Derived.Test.YticcldohgbpcbaaGreatDoorCgD
import Derived.Test.YticcldohgbpcbaaGreatDoorCkRefA
import Derived.Test.YticcldohgbpcbaaGreatDoorCkEq
import Derived.Test.YticcldohgbpcbaaGreatDoorCkUnpack
import Derived.Test.YticcldohgbpcbaaGreatDoorCkCfg
import Derived.Test.YticcldohgbpcbaaGreatDoorCnFew
import Derived.Test.YticcldohgbpcbaaGreatDoorCnRGood
namespace Go.Proofs.YticcldohgbpcbaaGreatDoor
open Go.RowKit Go.Sort
namespace LawK10Packs
open Knot (Tab tab_on tab_up conv_bytes Turns)
open Tr (Nd size)
open Who (bs bs_list bs_size wp_region_class quiet_of)
open Gr (Al Rl Ty IsCf tCf)
open Cn (ShortC gC fewC)
open Ck

/-- A row of bytes, whatever they are. -/
def Bytes (x : World) (g n : Nat) : Prop := ∃ cur, x.heap[g]? = some (.cells cur 5 (0, 0)) ∧ n ≤ cur.size ∧ ∀ j, j < n → ∃ z : Int, cur[j]? = some (.int .u8 z)
theorem bytes_own {x : World} {B g cap : Nat} {l : List UInt8} (h : x.ownsRow B 5 1 (.slice (some ⟨g, 0, none⟩) l.length cap) l.length (Lib.byteCells l)) : Bytes x g l.length := by
  rcases h.2 with ⟨h0, -⟩ | ⟨g', cap', cur, hv, hb, hg, hn, hcm, hcs, htk⟩
  · cases h0
  · obtain ⟨hg1, -, rfl⟩ : some (⟨g, 0, none⟩ : Addr) = some ⟨g', 0, none⟩ ∧ l.length = l.length ∧ cap = cap' := by simpa using hv
    obtain rfl : g = g' := by simpa using hg1
    refine ⟨cur, hg, by omega, fun j hj => ?_⟩
    have h1 : (Lib.byteCells l)[j]? = some (.int .u8 (l[j].toNat : Int)) := by simp [Lib.byteCells, hj]
    rw [← htk, List.getElem?_take] at h1
    split at h1
    · exact ⟨_, by simpa using h1⟩
    · cases h1
theorem Bytes.cell {x : World} {g n j : Nat} (h : Bytes x g n) (hj : j < n) : ∃ z : Int, x.cell? ⟨g, j, none⟩ = some (.int .u8 z) ∧ x.frozen? ⟨g, j, none⟩ = false := by
  obtain ⟨cur, hg, hn, hz⟩ := h
  obtain ⟨z, hc⟩ := hz j hj
  exact ⟨z, by rw [Lib.cell_of_heap hg]; exact hc, Lib.frozen_of_heap hg j⟩
theorem Bytes.put {x : World} {g n j : Nat} (h : Bytes x g n) (z : Int) : Bytes (x.setCell ⟨g, j, none⟩ (.int .u8 z)) g n := by
  obtain ⟨cur, hg, hn, hz⟩ := h
  refine ⟨_, Lib.heap_setCell_same hg _, by simpa using hn, fun k hk => ?_⟩
  by_cases e : j = k
  · subst e
    exact ⟨z, by rw [Array.getElem?_setIfInBounds_self, if_pos (by omega)]⟩
  · obtain ⟨y, hy⟩ := hz k hk
    exact ⟨y, by simpa [Array.getElem?_setIfInBounds, e] using hy⟩
theorem byte_at (g n cap j : Nat) (h : j < n) (W : World) : (Instr.indexAt 56 (.slice (some ⟨g, 0, none⟩) n cap) (.int .i64 (j : Int))).run Tryz.prog W = .ok (.pointer (some ⟨g, j, none⟩)) W := by
  have hu : Tryz.prog.underlying 56 = some (.slice (Tryz.prog.elem 56)) := by kernel_rfl
  have hz : (sizeOf (Tryz.prog.elem 56)).run Tryz.prog W = .ok 1 W := by kernel_rfl
  rw [run_indexAt_slice W _ _ _ _ _ _ hu, if_pos ⟨by omega, by omega⟩, hz]
  have e : ((j : Int)).toNat = j := by omega
  simp only [Result.andThen_ok, e, Addr.add_lit, Nat.mul_one, Nat.zero_add]

set_option maxHeartbeats 16000000 in
set_option maxRecDepth 100000 in
theorem walk (l : List Ty) (v : Value) (w : World) (h : IsCf w l v) (hs : ShortC l) (ha : ∀ t ∈ l, ∀ r ∈ t.rels, r.allow.length ≤ 281474976710656) (ht : Tab w.heap.size w) :
    Calls Tryz.prog 7 #[v] w fun e x => e = .returned (.bool true) ∧ Below w.heap.size w x := by
  obtain ⟨ao, cap, us, rfl, hl⟩ := id h
  have al := Tr.fresh_one w (.cells #[.slice ao l.length cap] tCf)
  have hk := heap_alloc_new w (.cells #[.slice ao l.length cap] tCf)
  have H0 := Lib.hid (And.intro al (And.intro hk h))
  have HT := Lib.hid ht
  have HS := Lib.hid (And.intro hs ha)
  have HA := Lib.hid (fun x (hb : Below w.heap.size w x) => Ck.awake_any x (tab_up ht hb))
  have hR : w.heap.size < (w.alloc (.cells #[.slice ao l.length cap] tCf)).heap.size := by simp
  clear al hk h hs ha ht hl
  go_enter Tryz.func7, Tryz.ntmps7
  go_upto_region 1 with fail
  generalize w.alloc (.cells #[.slice ao l.length cap] 24) = X at *
  go_wp2_with fail
  refine (HA.out _ H0.out.1).mono ?_
  rintro e x1 ⟨rfl, hx⟩
  have H1 := Lib.hid (And.intro (H0.out.1.trans (hx.mono H0.out.1.size)) ((hx.block _ hR).trans H0.out.2.1))
  clear hx
  have HF := Lib.hid (Cn.few_any l _ x1 (H0.out.2.2.below H1.out.1) HS.out.2)
  have b0 := Gr.box1 H1.out.2
  go_wp2_with fail
  refine HF.out.mono ?_
  rintro e x2 ⟨rfl, hx⟩
  have H2 := Lib.hid (And.intro (H1.out.1.trans (hx.mono H1.out.1.size)) ((hx.block _ (Array.getElem?_eq_some_iff.1 H1.out.2).1).trans H1.out.2))
  clear hx b0 HF H1
  have hl := H0.out.2.2
  cases hf : fewC l with
  | false =>
    clear hl hf
    go_wp2_with fail
    refine (HA.out _ H2.out.1).mono ?_
    rintro e x3 ⟨rfl, hx⟩
    have H3 := Lib.hid (H2.out.1.trans (hx.mono H2.out.1.size))
    clear hx
    go_wp2_with fail
    go_ret
    exact ⟨rfl, H3.out⟩
  | true =>
    have HFw := Lib.hid hf
    have HP := Lib.hid (pack_any l _ x2 (hl.below H2.out.1) (tab_up HT.out H2.out.1) (fun hg => Nat.le_trans (conf_bound hf hg) (by omega)))
    have b0 := Gr.box1 H2.out.2
    clear hl hf
    go_wp2_with fail
    refine HP.out.mono ?_
    rintro e x3 ⟨hb3, hcase⟩
    have H3 := Lib.hid (And.intro (H2.out.1.trans (hb3.mono H2.out.1.size)) ((hb3.block _ (Array.getElem?_eq_some_iff.1 H2.out.2).1).trans H2.out.2))
    have hc2 := (Array.getElem?_eq_some_iff.1 H2.out.2).1
    have HC2 := Lib.hid hc2
    clear hb3 b0 HP H2 hc2
    have HG := Lib.hid (Cn.rGood_any l _ x3 (H0.out.2.2.below H3.out.1) HS.out.1 fun t ht r hr => by have := (Cn.few_parts HFw.out).2.1 t ht; have := this.2 r hr; omega)
    have b0 := Gr.box1 H3.out.2
    rcases hcase with ⟨hg, rfl⟩ | ⟨hg, g, bc, rfl, hown⟩
    · rw [hg] at HG
      clear hg
      go_wp2_with fail
      refine HG.out.mono ?_
      rintro e x4 ⟨rfl, hx⟩
      have H4 := Lib.hid (H3.out.1.trans (hx.mono H3.out.1.size))
      clear hx
      go_wp2_with fail
      go_ret
      exact ⟨rfl, H4.out⟩
    · rw [hg] at HG
      have HGd := Lib.hid hg
      have HOw := Lib.hid hown
      clear hg hown
      go_wp2_with fail
      refine HG.out.mono ?_
      rintro e x4 ⟨rfl, hx⟩
      have H4 := Lib.hid (And.intro (H3.out.1.trans (hx.mono H3.out.1.size)) (And.intro ((hx.block _ (Array.getElem?_eq_some_iff.1 H3.out.2).1).trans H3.out.2) (Tr.own_below HOw.out hx)))
      clear hx b0 HG H3 HOw
      have hzz := conf_bound HFw.out HGd.out
      have hcv : ∀ W, Below x4.heap.size x4 W → (Go.convert 56 9 (.slice (some ⟨g, 0, none⟩) (confB l).length bc)).run Tryz.prog W = .ok (.string (bs (confB l))) W := fun W hW => conv_bytes (Tr.own_below H4.out.2.2 hW)
      have HU := Lib.hid (unpack_any (.slice (some ⟨g, 0, none⟩) (confB l).length bc) (bs (confB l)) x4 hcv (by rw [bs_size]; omega))
      have HZ := Lib.hid (And.intro hzz hcv)
      clear hzz hcv
      go_wp2_with fail
      refine HU.out.mono ?_
      rintro e x5 ⟨hb5, hcase⟩
      rw [bs_list, unpack_again HGd.out (by have := HZ.out.1; omega)] at hcase
      rcases hcase with ⟨hc, -⟩ | ⟨l', bv, hc, rfl, hcf⟩
      · cases hc
      obtain rfl := Option.some.inj hc
      obtain ⟨bo, bcap, rfl, hrow⟩ := hcf
      have al := Tr.fresh_one x5 (.cells #[.slice bo l.length bcap] tCf)
      have hk := heap_alloc_new x5 (.cells #[.slice bo l.length bcap] tCf)
      have hcu : CfU (x5.alloc (.cells #[.slice bo l.length bcap] tCf)) x4.heap.size l (.agg #[.slice bo l.length bcap]) := ⟨bo, bcap, rfl, hrow.below al⟩
      have hb6 := hb5.trans (al.mono hb5.size)
      have hgl := (H4.out.2.2.lt g rfl)
      have hxl := (Array.getElem?_eq_some_iff.1 H4.out.2.1).1
      have hY0 := (hb6.block _ hxl).trans H4.out.2.1
      have hne : ¬ w.heap.size = x5.heap.size := by have := hb5.size; omega
      have H5 := Lib.hid (And.intro (H4.out.1.trans (hb6.mono H4.out.1.size)) (And.intro hY0 (And.intro hk (And.intro hcu (And.intro hb6 (And.intro hgl (And.intro (Tr.own_below H4.out.2.2 hb6) hb5.size)))))))
      have HNe := Lib.hid hne
      clear hb5 hrow al hk hcu hb6 hgl hxl hY0 hc HU hne
      go_upto_region 7 with fail
      generalize x5.alloc (.cells #[.slice bo l.length bcap] 24) = Y at *
      generalize x5.heap.size = Rb at *
      have hok : okC ((confB l).length : Int) kidsP l := good_okC kids_lim HGd.out (conf_lens l) (by have := HZ.out.1; omega) (Int.le_refl _)
      have hfit : Gr.Fit l := fun t ht r hr => by have := (Cn.few_parts HFw.out).2.1 t ht; have := this.2 r hr; omega
      have HRp := Lib.hid (fun x (hx : Below Y.heap.size Y x) => rpack_any l _ x (H0.out.2.2.below (H5.out.1.trans (hx.mono H5.out.1.size))) hok (by have := HZ.out.1; omega))
      have HSc := Lib.hid (fun x (hx : Below Y.heap.size Y x) => samecfg_any hfit (H5.out.2.2.2.1.is.below hx) (H0.out.2.2.below (H5.out.1.trans (hx.mono H5.out.1.size))))
      have HCv := Lib.hid (fun x (hx : Below Y.heap.size Y x) => HZ.out.2 x (H5.out.2.2.2.2.1.trans (hx.mono H5.out.2.2.2.2.1.size)))
      have HBx := Lib.hid (fun x (hx : Below Y.heap.size Y x) => And.intro (Gr.box1 ((hx.block _ (Array.getElem?_eq_some_iff.1 H5.out.2.1).1).trans H5.out.2.1)) (Gr.box1 ((hx.block _ (Array.getElem?_eq_some_iff.1 H5.out.2.2.1).1).trans H5.out.2.2.1)))
      have hbe : ((bs (confB l)).toList == (bs (confB l)).toList) = true := beq_self_eq_true _
      have HFit := Lib.hid hfit
      clear hok hfit
      generalize hsn : bs (confB l) = sb at *
      generalize hln : (confB l).length = nb at *
      refine wp_region_class (C := fun x => Below Y.heap.size Y x) (by kernel_rfl) (by kernel_rfl) (Below.refl _ _).drew ?_
      repeat (first
        | go_big_quiet_skip
        | (go_big_quiet_want
           apply quiet_of
           · intro x hx
             obtain ⟨b0, b1⟩ := HBx.out x hx
             have hcv := HCv.out x hx
             first
               | (go_simp; rfl)
               | (clear b0 b1 hcv
                  go_simp
                  first
                    | (go_at_call 20; refine (HRp.out x hx).mono ?_; rintro e y ⟨rfl, hy⟩; exact ⟨rfl, hx.trans (hy.mono hx.size)⟩)
                    | (go_at_call 21; refine (HSc.out x hx).mono ?_; rintro e y ⟨rfl, hy⟩; exact ⟨rfl, hx.trans (hy.mono hx.size)⟩))
           simp only [Act.put, List.setIfInBounds_toArray, List.set_cons_zero, List.set_cons_succ]
           go_big_quiet_on))
      refine wpQuiet_nil ?_
      intro x6 hx6
      have HX6 := Lib.hid (And.intro hx6 (show Bytes x6 g nb from by rw [← hln]; exact bytes_own (Tr.own_below (hln ▸ H5.out.2.2.2.2.2.2.1) hx6)))
      clear hx6 hbe HRp HSc HCv
      go_wp2_with fail
      go_loopw [57] (fun iv wr => ∃ i : Nat, i ≤ nb ∧ iv = .int .i64 i ∧ Hid (Bytes wr g nb ∧ Turns (fun k => k = g) x6 wr)) (fun iv _ => nb - (intOf iv).toNat)
      case atStart => exact ⟨0, by omega, rfl, Lib.hid ⟨HX6.out.2, Turns.refl _ _⟩⟩
      case round =>
        obtain ⟨i, hi, rfl, HI⟩ := hrel
        have hnb : nb ≤ 55000000 := HZ.out.1
        by_cases hlt : i < nb
        · obtain ⟨z, c0, f0⟩ := HI.out.1.cell hlt
          have hix := byte_at g nb bc i hlt
          clear hnb
          have hnb2 : nb ≤ 55000000 := HZ.out.1
          go_wp2_with fail
          go_roundw
          case rel => exact ⟨i + 1, by omega, by go_num, Lib.hid ⟨HI.out.1.put _, HI.out.2.setCell (p := ⟨g, i, none⟩) rfl _⟩⟩
          case measure => simp [intOf]; omega
        · have hgl := H5.out.2.2.2.2.2.1
          have hc2 := HC2.out
          have hs5 := H5.out.2.2.2.2.2.2.2
          have hk0 := (HI.out.2.block w.heap.size (Nat.lt_of_lt_of_le (Array.getElem?_eq_some_iff.1 H5.out.2.1).1 HX6.out.1.size) (by omega)).trans ((HX6.out.1.block _ (Array.getElem?_eq_some_iff.1 H5.out.2.1).1).trans H5.out.2.1)
          have hk1 := (HI.out.2.block Rb (Nat.lt_of_lt_of_le (Array.getElem?_eq_some_iff.1 H5.out.2.2.1).1 HX6.out.1.size) (by omega)).trans ((HX6.out.1.block _ (Array.getElem?_eq_some_iff.1 H5.out.2.2.1).1).trans H5.out.2.2.1)
          have hbw : Below w.heap.size w wr := (H5.out.1.trans (HX6.out.1.mono H5.out.1.size)).trans (HI.out.2.below (Nat.le_trans H5.out.1.size HX6.out.1.size) fun k hk => by have e : k = g := hk; omega)
          have hcu := ((H5.out.2.2.2.1.turn (F := fun _ => False) (Turns.of_below HX6.out.1) fun _ _ _ h => h).turn HI.out.2 fun k hk _ e => by have e' : k = g := e; omega)
          have HS1 := Lib.hid (samecfg_any HFit.out hcu.is (H0.out.2.2.below hbw))
          have HC1 := Lib.hid (fun x (hx : Below wr.heap.size wr x) => samec_any (hcu.turn (F := fun _ => False) (Turns.of_below hx) fun _ _ _ h => h) (H0.out.2.2.below (hbw.trans (hx.mono hbw.size))) fun t ht r hr => (Cn.few_parts HFw.out).2.1 t ht |>.2 r hr)
          have HB := Lib.hid (And.intro hbw (And.intro hk0 hk1))
          have b0 := Gr.box1 hk0
          have b1 := Gr.box1 hk1
          clear hgl hc2 hs5 hk0 hk1 hbw hcu HI hnb
          go_wp2_with fail
          refine HS1.out.mono ?_
          rintro e y ⟨rfl, hy⟩
          have hk0 := (hy.block _ (Array.getElem?_eq_some_iff.1 HB.out.2.1).1).trans HB.out.2.1
          have hk1 := (hy.block _ (Array.getElem?_eq_some_iff.1 HB.out.2.2).1).trans HB.out.2.2
          have HY := Lib.hid hy
          clear b0 b1 hy HS1
          have b0 := Gr.box1 hk0
          have b1 := Gr.box1 hk1
          clear hk0 hk1
          go_wp2_with fail
          refine (HC1.out _ HY.out).mono ?_
          rintro e y2 ⟨rfl, hy2⟩
          have HE := Lib.hid (HB.out.1.trans ((HY.out.trans (hy2.mono HY.out.size)).mono HB.out.1.size))
          clear hy2 b0 b1 HC1
          go_wp2_with fail
          go_ret
          exact ⟨rfl, HE.out⟩
end LawK10Packs
end Go.Proofs.YticcldohgbpcbaaGreatDoor
