/-
  SpoolFinds, walked: upon any bytes of a ring's sectors what is found is the document's.
-/
import Derived.Test.YtkfmmdiflbnhgaaSpDBad
import Derived.Test.YtkfmmdiflbnhgaaSgpF
import Derived.Deep.CutBlock
namespace Go.Proofs.Ytkfmmdiflbnhgaa
set_option maxRecDepth 100000
open Go.RowKit
open Knot (Turns NewRow)
open Ta (IsBytes Stay sec nul ptr IsT Tray Made Grow Pl)
namespace Sp
/-- Bytes that came in stay, whatever the call's own blocks do. -/
theorem in_stay {w x : World} {v : Value} {b : List UInt8} {F : Nat → Prop} (h : IsBytes w v b) (hb : Below w.heap.size w x) (hF : ∀ k, F k → w.heap.size ≤ k) : Stay F x fun y => IsBytes y v b := fun _ hy =>
  Ta.IsBytes.below h (hb.trans (hy.below hb.size hF))
namespace LawS13Finds
set_option maxHeartbeats 32000000 in
set_option maxRecDepth 100000 in
theorem walk (L : List (List UInt8)) (v : Value) (hd ep : Int) (w : World) (hv : IsRecs w v L) (hw1 : (Lit.int .i64 hd).wf = true) (hw2 : (Lit.int .i64 ep).wf = true) :
    Calls Try.prog 6 #[v, .int .i64 hd, .int .i64 ep] w fun e x => e = .returned (.bool true) ∧ Below w.heap.size w x := by
  have HV := Lib.hid hv
  obtain ⟨ao, cap, rfl, hlc, hcm, -⟩ := hv
  have hlen : L.length ≤ 9223372036854775807 := Nat.le_trans hlc (Nat.le_trans hcm (by decide))
  have HN := Lib.hid (Ta.new_any 8 (by omega) w)
  have HW := Lib.hid (And.intro hw1 hw2)
  clear hlc hcm hw1 hw2
  go_enter Try.func6, Try.ntmps6
  go_wp2_with fail
  refine HN.out.mono ?_
  rintro e x1 ⟨p, rfl, hb, hi⟩
  have H1 := Lib.hid (And.intro hb hi)
  clear hb hi HN
  have h00 : ((0 : Int) != 0) = false := rfl
  have HD := Lib.hid (Ta.rnew_any 8 true (by simp) x1)
  unfold Ta.trV at HD
  go_wp2_with fail
  refine HD.out.mono ?_
  rintro e x2 ⟨rfl, hb2⟩
  obtain ⟨y, hY⟩ : ∃ y, y = x2.alloc (.cells #[.int .i64 8, .slice none 0 0, .slice none 0 0, .int .i64 (-1), .bool false] Ta.tTr) := ⟨_, rfl⟩
  have HY := Lib.hid (show Pl w y p x2.heap.size 8 Tray.fresh (Made w x1) (Made w x1) (.slice none 0 0) (.slice none 0 0) 0 from by
    have hal : Below x2.heap.size x2 y := by rw [hY]; exact (Below.refl _ _).alloc (Nat.le_refl _) _
    have hz1 := H1.out.1.size
    have hz2 := hb2.size
    have hb12 := hb2.trans (hal.mono hz2)
    refine ⟨H1.out.1.trans (hb12.mono hz1), H1.out.2.below hb12, fun _ h => h, fun k hk => by have := hk.2; have := hal.size; omega, fun k hk => hk.1, Nat.le_refl _, ?_, ⟨by omega, fun hk => by have := hk.2; omega⟩, Ta.stay_nil _ _, Ta.stay_nil _ _⟩
    rw [hY]
    exact heap_alloc_new x2 _)
  clear hb2 HD H1
  go_upto_region 3 with fail
  rw [← hY]
  generalize x2.heap.size = R at *
  clear hY
  go_wp2_with fail
  refine (awake_any y).mono ?_
  rintro e x3 ⟨rfl, hb⟩
  have H3 := Lib.hid (HY.out.on hb)
  clear hb HY
  by_cases h8 : 8 < L.length
  · have e8 : (8 : Int) < (L.length : Int) := by omega
    clear h8
    go_wp2_with fail
    refine (awake_any x3).mono ?_
    rintro e x4 ⟨rfl, hb⟩
    have H4 := Lib.hid (H3.out.below.trans (hb.mono H3.out.below.size))
    clear hb
    go_wp2_with fail
    go_ret
    exact ⟨rfl, H4.out⟩
  · have e8 : ¬ (8 : Int) < (L.length : Int) := by omega
    have H8 := Lib.hid h8
    clear h8
    go_wp2_with fail
    go_loopw [45] (fun vi x => ∃ (j : Nat) (t : Tray (List UInt8)) (F G : Nat → Prop) (kv cv : Value), j ≤ L.length ∧ vi = .int .i64 (j : Int) ∧ Hid (Pl w x p R 8 t F G kv cv j)) (fun i _ => L.length - (intOf i).toNat)
    case atStart => exact ⟨0, _, _, _, _, _, Nat.zero_le _, rfl, H3.out⟩
    case round =>
      clear H3
      obtain ⟨j, t, F, G, kv, cv, hj, rfl, HX⟩ := hrel
      have hj8 : j ≤ 8 := by have := H8.out; omega
      by_cases hlt : j < L.length
      · obtain ⟨g, q, u, hix, hu, hbs⟩ := rec_at (HV.out.below HX.out.below) hlt
        have hbst : Stay F wr fun z => IsBytes z u L[j] := fun z hz => by
          obtain ⟨g', q', u', hix', hu', hbs'⟩ := rec_at HV.out hlt
          have e1 := hix wr
          rw [hix' wr] at e1
          cases e1
          have hc := (HX.out.below.cell (World.block_lt_of_cell? w _ hu')).trans hu'
          rw [hu] at hc
          cases hc
          exact Ta.IsBytes.below hbs' (HX.out.below.trans (hz.below HX.out.below.size fun k hk => HX.out.new k (HX.out.sub k hk)))
        generalize L[j] = b at *
        have hsl := hbs
        obtain ⟨ob, cb, rfl, hbl, hbm, -⟩ := hsl
        have hbig : b.length ≤ 9223372036854775807 := by unfold maxLen at hbm; omega
        clear hbl hbm
        by_cases hl : 128 < b.length
        · have el : (128 : Int) < (b.length : Int) := by omega
          have HE := Lib.hid HX.out.below
          clear hl
          go_wp2_with fail
          go_ret
          exact ⟨rfl, HE.out⟩
        · have el : ¬ (128 : Int) < (b.length : Int) := by omega
          have hfw := HX.out.few
          have hold : Stay F wr fun z => IsBytes z (.slice ob b.length cb) b := hbst
          have HWr := Lib.hid (Ta.write_any (j : Int) (.slice ob b.length cb) b HX.out.is hold (by omega))
          have HHo := Lib.hid hold
          clear hold hbst hl
          generalize hwt : t.write 8 (j : Int) b = wt at *
          obtain ⟨t1, cd⟩ := wt
          have HWt := Lib.hid hwt
          clear hwt
          simp only at HWr
          go_wp2_with fail
          refine HWr.out.mono ?_
          rintro e z1 ⟨rfl, ht1, hi⟩
          have hD := HX.out.doc (HX.out.turns ht1)
          have HDf := Lib.hid (Ta.dput_any _ 8 _ t (j : Int) (.slice ob b.length cb) b z1 hD.2 hD.1 (HHo.out z1 ht1) HX.out.is.left (by omega))
          rw [HWt.out] at HDf
          simp only at HDf
          unfold Ta.trV at HDf
          have hbR := HX.out.box.turn ht1 fun hf => HX.out.off.2 (HX.out.sub _ hf)
          have HZ1 := Lib.hid (And.intro ht1 (And.intro hi hbR))
          obtain ⟨c0, c1, c2, c3, c4⟩ := hbR.cells
          obtain ⟨ka, kq, hka⟩ := HX.out.dk.now.slice
          obtain ⟨ca, cq, hca⟩ := HX.out.dc.now.slice
          subst hka hca
          clear ht1 hi hD hbR HWr
          go_wp2_with fail
          refine HDf.out.mono ?_
          rintro e z2 ⟨v', rfl, ⟨kv', cv', rfl, hk', hc'⟩, hb⟩
          have hfew : t1.kept.length + t1.cache.length ≤ j + 1 := by
            have e1 : t1 = (t.write 8 (j : Int) b).1 := by rw [HWt.out]
            have h2 := Ta.write_few (n := 8) t (j : Int) b
            have h3 : (t.write 8 (j : Int) b).1.kept = t.kept := by
              unfold Tray.write
              split
              · rfl
              · split
                · rfl
                · unfold Tray.put
                  split <;> rfl
            rw [e1, h3]
            omega
          have HFin := Lib.hid (HX.out.step (HX.out.turns HZ1.out.1) HZ1.out.2.1 (fun k hk => hk.elim .inl fun hk => .inr hk.1) hb hk' hc' hfew)
          obtain ⟨k1, k2, hkv⟩ := hk'.now.slice
          obtain ⟨k3, k4, hcv⟩ := hc'.now.slice
          subst hkv hcv
          have hb2R := HZ1.out.2.2.on hb
          obtain ⟨c0, c1, c2, c3, c4⟩ := hb2R.cells
          obtain ⟨f0, f1, f2, f3, f4⟩ := hb2R.free
          clear hk' hc' hb hb2R hfew
          unfold Ta.trV
          go_upto_region 12 with fail
          clear c0 c1 c2 c3 c4 f0 f1 f2 f3 f4 HDf
          change Code.wp _ _ _ _ (Ta.st5 z2 R (.int .i64 ((8 : Nat) : Int)) (.slice k1 t1.kept.length k2) (.slice k3 t1.cache.length k4) (.int .i64 t1.left) (.bool t1.dark))
          generalize Ta.st5 z2 R (.int .i64 ((8 : Nat) : Int)) (.slice k1 t1.kept.length k2) (.slice k3 t1.cache.length k4) (.int .i64 t1.left) (.bool t1.dark) = Z3 at *
          go_wp2_with fail
          go_roundw
          case rel => exact ⟨j + 1, t1, _, _, _, _, by omega, by go_num, HFin.out⟩
          case measure => simp [intOf]; omega
      · have hnl : ¬ (j : Int) < (L.length : Int) := by omega
        clear hlt
        go_upto_region 13 with fail
        obtain ⟨ka, kq, hka⟩ := HX.out.dk.now.slice
        obtain ⟨ca, cq, hca⟩ := HX.out.dc.now.slice
        subst hka hca
        by_cases ho : Opens 8 1 6 hd ep
        · obtain ⟨o1, o2, o3, o4, o5⟩ := ho
          obtain ⟨h, rfl⟩ : ∃ h : Nat, hd = (h : Int) := ⟨hd.toNat, by omega⟩
          obtain ⟨e0, rfl⟩ : ∃ h : Nat, ep = (h : Int) := ⟨ep.toNat, by omega⟩
          have ho : Opens 8 ((1 : Nat) : Int) ((6 : Nat) : Int) (h : Int) (e0 : Int) := ⟨o1, o2, o3, o4, o5⟩
          have HO := Lib.hid (open_any (t := t) ⟨1, 6, h, h, e0, false⟩ rfl rfl ho HX.out.is)
          simp only at HO
          have hfd : (found t ⟨1, 6, h, h, e0, false⟩).2 ≤ 2000000000000 ∨ True := .inr trivial
          clear hfd
          go_wp2_with fail
          refine HO.out.mono ?_
          rintro e x5 ⟨qs, vl, rfl, hb5, hq5, hsp, hrc, hf1, hf2⟩
          have hbR := HX.out.box.on hb5
          obtain ⟨c0, c1, c2, c3, c4⟩ := hbR.cells
          have HDo := Lib.hid (dopen_any 8 (.slice ka t.kept.length kq) (.slice ca t.cache.length cq) t ⟨1, 6, h, h, e0, false⟩ x5 (HX.out.dk.now.below hb5) (HX.out.dc.now.below hb5) (fun a => Ta.read_len HX.out.is a) rfl rfl ho (by omega))
          unfold Ta.trV at HDo
          simp only at HDo
          have hri := hrc.is
          obtain ⟨la, lc, rfl⟩ := hri.slice
          have H5 := Lib.hid (And.intro (HX.out.below.trans (hb5.mono HX.out.below.size)) (And.intro hsp hri))
          clear hb5 hq5 hsp hrc hri hbR HO ho o1 o2 o3 o4 o5
          go_wp2_with fail
          refine HDo.out.mono ?_
          rintro e x6 ⟨vm, rfl, hb6, hrm, hg1, hg2⟩
          obtain ⟨ma, mc, rfl⟩ := hrm.slice
          have HFo := Lib.hid (And.intro hf1 (And.intro hf2 (And.intro hg1 hg2)))
          clear hf1 hf2 hg1 hg2 HDo
          generalize found t ⟨1, 6, h, h, e0, false⟩ = fd at *
          obtain ⟨Ls, tl⟩ := fd
          simp only at H5 hrm HFo
          obtain ⟨X, hX⟩ : ∃ X, X = x6.alloc (.cells (dsC ⟨1, 6, h, tl, e0, false⟩) tDS) := ⟨_, rfl⟩
          have hal : Below x6.heap.size x6 X := by rw [hX]; exact (Below.refl _ _).alloc (Nat.le_refl _) _
          have hbd : DsB X x6.heap.size ⟨1, 6, h, tl, e0, false⟩ := by rw [hX]; exact heap_alloc_new x6 _
          have hb5 : Below x5.heap.size x5 X := hb6.trans (hal.mono hb6.size)
          have HX6 := Lib.hid (show Below w.heap.size w X ∧ SpB X qs p ⟨1, 6, h, tl, e0, false⟩ ∧ IsRecs X (.slice la Ls.length lc) Ls ∧ IsRecs X (.slice ma Ls.length mc) Ls ∧ DsB X x6.heap.size ⟨1, 6, h, tl, e0, false⟩ from ⟨H5.out.1.trans (hb5.mono H5.out.1.size), H5.out.2.1.on hb5, H5.out.2.2.below hb5, hrm.below hal, hbd⟩)
          clear c0 c1 c2 c3 c4 hb6 hrm hal hbd hb5 H5
          unfold dsC
          go_upto_region 15 with fail
          change Code.wp _ _ _ _ (x6.alloc (.cells (dsC ⟨1, 6, h, tl, e0, false⟩) tDS))
          rw [← hX]
          clear hX
          generalize x6.heap.size = A6 at *
          have HSm := Lib.hid (show ∀ x, Below X.heap.size X x → _ from fun x hx => same_any (w := x) _ _ Ls Ls (HX6.out.2.2.1.below hx) (HX6.out.2.2.2.1.below hx))
          rw [decide_eq_true (rfl : Ls = Ls)] at HSm
          have HTl := Lib.hid (show ∀ x, Below X.heap.size X x → _ from fun x hx => tail_any (HX6.out.2.1.on hx))
          simp only at HTl
          have HF := Lib.hid (show ∀ x, Below X.heap.size X x → x.cell? ⟨A6, 4, none⟩ = some (.int .i64 (tl : Int)) from fun x hx => (HX6.out.2.2.2.2.on hx).cells.2.2.2.2.1)
          refine Order.beginE (fun x => Below X.heap.size X x) [] (by kernel_rfl) ?_
          refine Order.readsE_any (idx := [0, 1, 2, 3, 4, 5]) (by kernel_rfl) (Below.refl _ _).drew (fun _ _ _ _ _ h => Order.noPanic_put h) 21 _ _ (by decide +kernel) ?_
          simp only [Order.pick, List.getElem?_toArray, List.getElem?_cons_zero, List.getElem?_cons_succ]
          repeat (first
            | (refine Order.reads_off (by rfl) ?_
               simp only [Act.put, List.setIfInBounds_toArray, List.set_cons_zero, List.set_cons_succ])
            | (apply Order.reads_on
               · rfl
               · intro x hx
                 first
                   | (go_simp; rfl)
                   | (fail
                      go_simp; rfl)
               simp only [Act.put, List.setIfInBounds_toArray, List.set_cons_zero, List.set_cons_succ]))
          refine Order.reads_end ?_
          apply Order.actE (i := 6)
          · rfl
          · decide +kernel
          · rfl
          unfold Oper.wp
          go_simp
          refine (HSm.out _ (Below.refl _ _).drew).mono ?_
          rintro e y1 ⟨rfl, hb1⟩
          have hb1' : Below X.heap.size X y1 := (Below.refl X.heap.size X).drew.trans hb1
          refine ⟨hb1', ?_⟩
          refine Order.readsE_any (idx := [7, 8, 9, 10, 11, 12, 13, 14, 15, 16, 17, 18, 19, 21, 22]) (by kernel_rfl) hb1' (fun _ _ _ _ _ h => Order.noPanic_put h) 5 _ _ (by decide +kernel) ?_
          simp only [Order.pick, List.getElem?_toArray, List.getElem?_cons_zero, List.getElem?_cons_succ]
          repeat (first
            | (refine Order.reads_off (by rfl) ?_
               simp only [Act.put, List.setIfInBounds_toArray, List.set_cons_zero, List.set_cons_succ])
            | (apply Order.reads_on
               · rfl
               · intro x hx
                 first
                   | (have c4 := HF.out x hx
                      exact Order.load_at rfl rfl (by assumption))
                   | (go_simp; rfl)
                   | (have c4 := HF.out x hx
                      go_simp; rfl)
               simp only [Act.put, List.setIfInBounds_toArray, List.set_cons_zero, List.set_cons_succ]))
          refine Order.reads_end ?_
          apply Order.actE (i := 20)
          · rfl
          · decide +kernel
          · rfl
          unfold Oper.wp
          go_simp
          refine (HTl.out _ hb1').mono ?_
          rintro e y2 ⟨rfl, hb2⟩
          subst hb2
          refine ⟨hb1', ?_⟩
          refine Order.readsE_any (idx := [23, 24, 25, 26]) (by kernel_rfl) hb1' (fun _ _ _ _ _ h => Order.noPanic_put h) 0 _ _ (by decide +kernel) ?_
          simp only [Order.pick, List.getElem?_toArray, List.getElem?_cons_zero, List.getElem?_cons_succ]
          repeat (first
            | (refine Order.reads_off (by rfl) ?_
               simp only [Act.put, List.setIfInBounds_toArray, List.set_cons_zero, List.set_cons_succ])
            | (apply Order.reads_on
               · rfl
               · intro x hx
                 first
                   | (go_simp; rfl)
                   | (fail
                      go_simp; rfl)
               simp only [Act.put, List.setIfInBounds_toArray, List.set_cons_zero, List.set_cons_succ]))
          refine Order.reads_end ?_
          refine Order.doneE (by decide +kernel) ?_ _
          refine NoPanic.normal ?_
          have HE := Lib.hid (HX6.out.1.trans (hb1'.mono HX6.out.1.size))
          clear hb1 hb1'
          go_wp2_with fail
          go_ret
          exact ⟨rfl, HE.out⟩
        · have hh := HW.out
          have HO := Lib.hid (open_bad (f := 1) (c := 6) (head := hd) (epoch := ep) (by omega) (by omega) HX.out.is ho)
          go_wp2_with fail
          refine HO.out.mono ?_
          rintro e x5 ⟨rfl, hb5⟩
          have hbR := HX.out.box.on hb5
          obtain ⟨c0, c1, c2, c3, c4⟩ := hbR.cells
          have HDo := Lib.hid (dopen_bad 8 (.slice ka t.kept.length kq) (.slice ca t.cache.length cq) t 1 6 hd ep x5 ⟨_, _, _, rfl⟩ ⟨_, _, _, rfl⟩ ho (by omega))
          unfold Ta.trV at HDo
          have H5 := Lib.hid (HX.out.below.trans (hb5.mono HX.out.below.size))
          clear hb5 hbR HO ho hh
          go_wp2_with fail
          refine HDo.out.mono ?_
          rintro e x6 ⟨rfl, hb6⟩
          obtain ⟨X, hX⟩ : ∃ X, X = x6.alloc (.cells (dsC ⟨0, 0, 0, 0, 0, false⟩) tDS) := ⟨_, rfl⟩
          have hal : Below x6.heap.size x6 X := by rw [hX]; exact (Below.refl _ _).alloc (Nat.le_refl _) _
          have hb5 : Below x5.heap.size x5 X := hb6.trans (hal.mono hb6.size)
          have HX6 := Lib.hid (H5.out.trans (hb5.mono H5.out.size))
          clear c0 c1 c2 c3 c4 hb6 hal hb5 H5 HDo
          unfold dsC
          go_upto_region 15 with fail
          change Code.wp _ _ _ _ (x6.alloc (.cells (dsC ⟨0, 0, 0, 0, 0, false⟩) tDS))
          rw [← hX]
          clear hX
          have hnil : ∀ x, IsRecs x (.slice none 0 0) [] := fun x => ⟨none, 0, rfl, Nat.le_refl _, Nat.zero_le _, fun h => absurd rfl h⟩
          have HSm := Lib.hid (fun x => same_any (w := x) _ _ [] [] (hnil x) (hnil x))
          rw [decide_eq_true (rfl : ([] : List (List UInt8)) = [])] at HSm
          clear hnil
          refine Order.beginE (fun x => Below X.heap.size X x) [] (by kernel_rfl) ?_
          refine Order.readsE_any (idx := [0, 1, 2, 3, 4, 5]) (by kernel_rfl) (Below.refl _ _).drew (fun _ _ _ _ _ h => Order.noPanic_put h) 21 _ _ (by decide +kernel) ?_
          simp only [Order.pick, List.getElem?_toArray, List.getElem?_cons_zero, List.getElem?_cons_succ]
          repeat (first
            | (refine Order.reads_off (by rfl) ?_
               simp only [Act.put, List.setIfInBounds_toArray, List.set_cons_zero, List.set_cons_succ])
            | (apply Order.reads_on
               · rfl
               · intro x hx
                 first
                   | (go_simp; rfl)
                   | (fail
                      go_simp; rfl)
               simp only [Act.put, List.setIfInBounds_toArray, List.set_cons_zero, List.set_cons_succ]))
          refine Order.reads_end ?_
          apply Order.actE (i := 6)
          · rfl
          · decide +kernel
          · rfl
          unfold Oper.wp
          go_simp
          refine (HSm.out _).mono ?_
          rintro e y1 ⟨rfl, hb1⟩
          have hb1' : Below X.heap.size X y1 := (Below.refl X.heap.size X).drew.trans hb1
          refine ⟨hb1', ?_⟩
          refine Order.readsE_any (idx := [7, 8, 9, 10, 11, 12, 13, 14, 15, 16, 17, 18, 19, 20, 21, 22, 23, 24, 25, 26]) (by kernel_rfl) hb1' (fun _ _ _ _ _ h => Order.noPanic_put h) 0 _ _ (by decide +kernel) ?_
          simp only [Order.pick, List.getElem?_toArray, List.getElem?_cons_zero, List.getElem?_cons_succ]
          repeat (first
            | (refine Order.reads_off (by rfl) ?_
               simp only [Act.put, List.setIfInBounds_toArray, List.set_cons_zero, List.set_cons_succ])
            | (apply Order.reads_on
               · rfl
               · intro x hx
                 first
                   | (go_simp; rfl)
                   | (fail
                      go_simp; rfl)
               simp only [Act.put, List.setIfInBounds_toArray, List.set_cons_zero, List.set_cons_succ]))
          refine Order.reads_end ?_
          refine Order.doneE (by decide +kernel) ?_ _
          refine NoPanic.normal ?_
          have HE := Lib.hid (HX6.out.trans (hb1'.mono HX6.out.size))
          clear hb1 hb1'
          go_wp2_with fail
          go_ret
          exact ⟨rfl, HE.out⟩
end LawS13Finds
end Sp
end Go.Proofs.Ytkfmmdiflbnhgaa
