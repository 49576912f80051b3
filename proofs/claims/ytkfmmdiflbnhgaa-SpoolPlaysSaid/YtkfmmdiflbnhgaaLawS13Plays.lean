/-
  SpoolPlays, walked: of any calls each answers as the document says; so do the sectors, and what is found when it is opened again.
-/
import Derived.Test.YtkfmmdiflbnhgaaSpPp
import Derived.Test.YtkfmmdiflbnhgaaSgpF
import Derived.Test.YtkfmmdiflbnhgaaTgD
import Derived.Deep.CutBlock
namespace Go.Proofs.Ytkfmmdiflbnhgaa
set_option maxRecDepth 100000
open Go.RowKit
open Knot (Turns NewRow)
open Ta (IsBytes IsFlags IsActs Stay sec nul tSec ptr IsT Tray Made Grow Pl C5 tTr st5)
open Tr (own_turn own_below own_slice own_open)
namespace Sp
theorem recs_none (x : World) : IsRecs x (.slice none 0 0) [] := ⟨none, 0, rfl, Nat.le_refl _, Nat.zero_le _, fun h => absurd rfl h⟩
/-- A list of records stays where one other block turns. -/
theorem Recs.one {B X : Nat} {H : Nat → Prop} {x y : World} {v : Value} {L : List (List UInt8)} (h : Recs B H x v L) (ht : Turns (fun k => k = X) x y) (hH : H X) (hB : X < B) : IsRecs y v L := by
  obtain ⟨vs, h1, h2⟩ := h
  refine Recs.is (B := B) (G := H) ⟨vs, own_turn h1 ht fun k hk e => by have := (h1.lt k hk).1; omega, fun i hi => ?_⟩
  obtain ⟨u, hu, hs⟩ := h2 i hi
  exact ⟨u, hu, hs.turn (ht.mono fun k _ e => .inl (e ▸ hH))⟩
namespace LawS13Plays
set_option maxHeartbeats 64000000 in
set_option maxRecDepth 100000 in
theorem walk (fi co hd ep : Int) (l : List Ta.Act) (v : Value) (w : World) (hw1 : (Lit.int .i64 fi).wf = true) (hw2 : (Lit.int .i64 co).wf = true) (_hw3 : (Lit.int .i64 hd).wf = true) (_hw4 : (Lit.int .i64 ep).wf = true) (hv : IsActs w v l) :
    Calls Try.prog 4 #[.agg #[.int .i64 fi, .int .i64 co], .agg #[.int .i64 hd, .int .i64 ep], v] w fun e x => e = .returned (.bool true) ∧ Below w.heap.size w x := by
  have HV := Lib.hid hv
  obtain ⟨ao, cap, rfl, hlen⟩ := acts_len hv
  have HWf := Lib.hid (And.intro hw1 hw2)
  clear hv hw1 hw2
  go_enter Try.func4, Try.ntmps4
  go_upto_region 1 with fail
  obtain ⟨x0, hx0⟩ : ∃ X, X = (w.alloc (.cells #[.int .i64 fi, .int .i64 co] tRg)).alloc (.cells #[.int .i64 hd, .int .i64 ep] 29) := ⟨_, rfl⟩
  rw [← hx0]
  have H0 := Lib.hid (show Below w.heap.size w x0 ∧ x0.heap[w.heap.size]? = some (.cells #[.int .i64 fi, .int .i64 co] tRg (0, 0)) ∧ x0.heap[w.heap.size + 1]? = some (.cells #[.int .i64 hd, .int .i64 ep] 29 (0, 0)) from by
    rw [hx0]
    have b1 := (Below.refl (w.alloc (.cells #[.int .i64 fi, .int .i64 co] tRg)).heap.size _).alloc (Nat.le_refl _) (.cells #[.int .i64 hd, .int .i64 ep] 29)
    have i2 := heap_alloc_new (w.alloc (.cells #[.int .i64 fi, .int .i64 co] tRg)) (.cells #[.int .i64 hd, .int .i64 ep] 29)
    rw [show (w.alloc (.cells #[.int .i64 fi, .int .i64 co] tRg)).heap.size = w.heap.size + 1 by simp] at i2
    exact ⟨((Below.refl _ _).alloc (Nat.le_refl _) _).alloc (by simp) _, (b1.block w.heap.size (by simp)).trans (heap_alloc_new w _), i2⟩)
  clear hx0
  have HK := Lib.hid (show w.heap.size < x0.heap.size from (Array.getElem?_eq_some_iff.1 H0.out.2.1).1)
  have HF0 := Lib.hid (show ∀ x, Below x0.heap.size x0 x → x.cell? ⟨w.heap.size + 1, 0, none⟩ = some (.int .i64 hd) ∧ x.cell? ⟨w.heap.size + 1, 1, none⟩ = some (.int .i64 ep) from fun x hx => by
    have h := (hx.block _ (Array.getElem?_eq_some_iff.1 H0.out.2.2).1).trans H0.out.2.2
    exact ⟨by rw [Lib.cell_of_heap h]; rfl, by rw [Lib.cell_of_heap h]; rfl⟩)
  generalize w.heap.size + 1 = A1 at *
  refine Order.beginE (fun x => Below x0.heap.size x0 x) [] (by kernel_rfl) ?_
  refine Order.readsE_any (idx := [0, 1, 2, 3, 4, 5]) (by kernel_rfl) (Below.refl _ _).drew (fun _ _ _ _ _ h => Order.noPanic_put h) 0 _ _ (by decide +kernel) ?_
  simp only [Order.pick, List.getElem?_toArray, List.getElem?_cons_zero, List.getElem?_cons_succ]
  repeat (first
    | (refine Order.reads_off (by rfl) ?_
       simp only [Act.put, List.setIfInBounds_toArray, List.set_cons_zero, List.set_cons_succ])
    | (apply Order.reads_on
       · rfl
       · intro x hx
         first
           | (obtain ⟨c0, c1⟩ := HF0.out x hx
              exact Order.load_at rfl rfl (by assumption))
           | (go_simp; rfl)
           | (obtain ⟨c0, c1⟩ := HF0.out x hx
              go_simp; rfl)
       simp only [Act.put, List.setIfInBounds_toArray, List.set_cons_zero, List.set_cons_succ]))
  refine Order.reads_end ?_
  refine Order.doneE (by decide +kernel) ?_ _
  refine NoPanic.normal ?_
  have H0d := Lib.hid (show Below w.heap.size w x0.drew ∧ x0.drew.heap[w.heap.size]? = some (.cells #[.int .i64 fi, .int .i64 co] tRg (0, 0)) ∧ w.heap.size < x0.drew.heap.size from ⟨H0.out.1.drew, H0.out.2.1, HK.out⟩)
  clear H0 HK HF0
  generalize x0.drew = V at *
  have HN := Lib.hid (Ta.new_any 12 (by omega) V)
  have h00 : ((0 : Int) != 0) = false := rfl
  go_wp2_with fail
  refine HN.out.mono ?_
  rintro e x1 ⟨p, rfl, hb, hi⟩
  have H1 := Lib.hid (And.intro hb hi)
  clear hb hi HN
  have HD := Lib.hid (Ta.rnew_any 12 true (by simp) x1)
  unfold Ta.trV at HD
  go_wp2_with fail
  refine HD.out.mono ?_
  rintro e x2 ⟨rfl, hb2⟩
  obtain ⟨y, hY⟩ : ∃ y, y = x2.alloc (.cells #[.int .i64 12, .slice none 0 0, .slice none 0 0, .int .i64 (-1), .bool false] tTr) := ⟨_, rfl⟩
  have HY := Lib.hid (show Pl w y p x2.heap.size 12 Tray.fresh (Made V x1) (Made V x1) (.slice none 0 0) (.slice none 0 0) 0 ∧ y.heap[w.heap.size]? = some (.cells #[.int .i64 fi, .int .i64 co] tRg (0, 0)) ∧ (¬ Made V x1 w.heap.size ∧ w.heap.size ≠ x2.heap.size ∧ w.heap.size ≤ w.heap.size) from by
    have hal : Below x2.heap.size x2 y := by rw [hY]; exact (Below.refl _ _).alloc (Nat.le_refl _) _
    have hz1 := H1.out.1.size
    have hz2 := hb2.size
    have hz0 := H0d.out.1.size
    have hk := H0d.out.2.2
    have hb12 := hb2.trans (hal.mono hz2)
    have hV := H1.out.1.trans (hb12.mono hz1)
    refine ⟨⟨H0d.out.1.trans (hV.mono hz0), H1.out.2.below hb12, fun _ h => h, fun k hk => by have := hk.2; have := hal.size; omega, fun k hk => by have := hk.1; omega, Nat.le_refl _, ?_, ⟨by omega, fun hk => by have := hk.2; omega⟩, Ta.stay_nil _ _, Ta.stay_nil _ _⟩, (hV.block _ hk).trans H0d.out.2.1, fun h => by have := h.1; omega, by omega, Nat.le_refl _⟩
    rw [hY]
    exact heap_alloc_new x2 _)
  clear hb2 HD H1 H0d
  go_upto_region 4 with fail
  rw [← hY]
  generalize x2.heap.size = R at *
  clear hY
  generalize Made V x1 = F0 at *
  go_wp2_with fail
  refine (awake_any y).mono ?_
  rintro e x3 ⟨rfl, hb⟩
  have H3 := Lib.hid (show Pl w x3 p R 12 Tray.fresh F0 F0 (.slice none 0 0) (.slice none 0 0) 0 ∧ x3.heap[w.heap.size]? = some (.cells #[.int .i64 fi, .int .i64 co] tRg (0, 0)) from ⟨HY.out.1.on hb, (hb.block _ (Array.getElem?_eq_some_iff.1 HY.out.2.1).1).trans HY.out.2.1⟩)
  have HKo := Lib.hid HY.out.2.2
  clear hb HY
  have HFw := Lib.hid (few_any (w := x3) _ l (Ta.IsActs.below HV.out H3.out.1.below))
  go_wp2_with fail
  refine HFw.out.mono ?_
  rintro e x4 ⟨rfl, hb⟩
  have H4 := Lib.hid (show Pl w x4 p R 12 Tray.fresh F0 F0 (.slice none 0 0) (.slice none 0 0) 0 ∧ x4.heap[w.heap.size]? = some (.cells #[.int .i64 fi, .int .i64 co] tRg (0, 0)) from ⟨H3.out.1.on hb, (hb.block _ (Array.getElem?_eq_some_iff.1 H3.out.2).1).trans H3.out.2⟩)
  clear hb H3 HFw
  by_cases hfew : Few l
  · rw [decide_eq_true hfew]
    have HFew := Lib.hid hfew
    clear hfew
    go_upto_region 6 with fail
    obtain ⟨r0, r1⟩ : x4.cell? ⟨w.heap.size, 0, none⟩ = some (.int .i64 fi) ∧ x4.cell? ⟨w.heap.size, 1, none⟩ = some (.int .i64 co) := by
      constructor <;> (rw [Lib.cell_of_heap H4.out.2]; rfl)
    by_cases ho : Opens 12 fi co hd ep
    · obtain ⟨⟨o1, o2, o3, o4⟩, o5, o6, o7, o8⟩ := ho
      obtain ⟨f, rfl⟩ : ∃ h : Nat, fi = (h : Int) := ⟨fi.toNat, by omega⟩
      obtain ⟨c, rfl⟩ : ∃ h : Nat, co = (h : Int) := ⟨co.toNat, by omega⟩
      obtain ⟨h, rfl⟩ : ∃ h : Nat, hd = (h : Int) := ⟨hd.toNat, by omega⟩
      obtain ⟨e0, rfl⟩ : ∃ h : Nat, ep = (h : Int) := ⟨ep.toNat, by omega⟩
      have ho : Opens 12 (f : Int) (c : Int) (h : Int) (e0 : Int) := ⟨⟨o1, o2, o3, o4⟩, o5, o6, o7, o8⟩
      have HBd := Lib.hid (show 2 ≤ c ∧ f + c ≤ 12 ∧ h ≤ 1099511627776 ∧ 1 ≤ e0 ∧ e0 ≤ 4294967295 from by omega)
      have HO := Lib.hid (open_any (t := Tray.fresh) ⟨f, c, h, h, e0, false⟩ rfl rfl ho H4.out.1.is)
      simp only at HO
      go_wp2_with fail
      refine HO.out.mono ?_
      rintro e x5 ⟨q, vl, rfl, hb5, hq5, hsp, hrc, -, -⟩
      have hbR := H4.out.1.box.on hb5
      obtain ⟨c0, c1, c2, c3, c4⟩ := hbR.cells
      have hring := (hb5.block _ (Array.getElem?_eq_some_iff.1 H4.out.2).1).trans H4.out.2
      obtain ⟨r0', r1'⟩ : x5.cell? ⟨w.heap.size, 0, none⟩ = some (.int .i64 (f : Int)) ∧ x5.cell? ⟨w.heap.size, 1, none⟩ = some (.int .i64 (c : Int)) := by
        constructor <;> (rw [Lib.cell_of_heap hring]; rfl)
      have HDo := Lib.hid (dopen_any 12 (.slice none 0 0) (.slice none 0 0) Tray.fresh ⟨f, c, h, h, e0, false⟩ x5 (H4.out.1.dk.now.below hb5) (H4.out.1.dc.now.below hb5) (fun a => Ta.read_len H4.out.1.is a) rfl rfl ho (by omega))
      unfold Ta.trV at HDo
      simp only at HDo
      have hri := hrc.is
      obtain ⟨la, lc, rfl⟩ := hri.slice
      have H5 := Lib.hid (And.intro hb5 (And.intro hsp (And.intro hri (And.intro hq5 hring))))
      clear hb5 hq5 hsp hrc hri hbR HO ho o1 o2 o3 o4 o5 o6 o7 o8 r0 r1 hring
      rw [show (Tray.fresh : Tray (List UInt8)).left = -1 from rfl] at HDo c3
      rw [show (Tray.fresh : Tray (List UInt8)).dark = false from rfl] at HDo c4
      go_wp2_with fail
      refine HDo.out.mono ?_
      rintro e x6 ⟨vm, rfl, hb6, hrm, hg1, hg2, -⟩
      obtain ⟨ma, mc, rfl⟩ := hrm.slice
      generalize found Tray.fresh ⟨f, c, h, h, e0, false⟩ = fd at *
      obtain ⟨Ls, tl⟩ := fd
      simp only at H5 hrm hg1 hg2
      obtain ⟨x7, hX⟩ : ∃ X, X = x6.alloc (.cells (dsC ⟨f, c, h, tl, e0, false⟩) tDS) := ⟨_, rfl⟩
      have hal : Below x6.heap.size x6 x7 := by rw [hX]; exact (Below.refl _ _).alloc (Nat.le_refl _) _
      have hbd : DsB x7 x6.heap.size ⟨f, c, h, tl, e0, false⟩ := by rw [hX]; exact heap_alloc_new x6 _
      have hb5 : Below x5.heap.size x5 x7 := hb6.trans (hal.mono hb6.size)
      have hb4 : Below x4.heap.size x4 x7 := H5.out.1.trans (hb5.mono H5.out.1.size)
      have HPp := Lib.hid (show Pp w x7 p q R x6.heap.size w.heap.size Tray.fresh ⟨f, c, h, tl, e0, false⟩ F0 (Grow F0 x4 x7) (.slice none 0 0) (.slice none 0 0) 0 from by
        have hq := H5.out.2.1.lt
        have hXl := hbd.lt
        have hs5 := H5.out.1.size
        have hs6 := hb6.size
        have hKl := (Array.getElem?_eq_some_iff.1 H4.out.2).1
        have hlow := H4.out.1.is.low
        have hbB := HBd.out
        refine ⟨⟨pl_grown H4.out.1 hb4, hbd, (hb5.block _ (Array.getElem?_eq_some_iff.1 H5.out.2.2.2.2).1).trans H5.out.2.2.2.2, ⟨by show 2 ≤ c ∧ c ≤ 4096; omega, by show f ≤ 4096; omega, hg1, by show tl ≤ _; omega, by show 1 ≤ e0 ∧ e0 ≤ _; omega⟩, by show f + c ≤ 12; omega, by show tl ≤ _; omega, ⟨.inr ⟨by omega, hXl⟩, fun hk => by have := hlow _ hk; omega⟩, ⟨fun hk => hk.elim HKo.out.1 fun hk => by omega, HKo.out.2.1, Nat.le_refl _⟩⟩, H5.out.2.1.on hb5, ⟨.inr ⟨H5.out.2.2.2.1, by have := hb5.size; omega⟩, fun hk => by have := hlow _ hk; have := H5.out.2.2.2.1; omega, by omega⟩⟩)
      have HLs := Lib.hid (show IsRecs x7 (.slice la Ls.length lc) Ls ∧ IsRecs x7 (.slice ma Ls.length mc) Ls from ⟨H5.out.2.2.1.below hb5, hrm.below hal⟩)
      clear c0 c1 c2 c3 c4 hb6 hrm hal hbd hb5 hb4 H5 hg1 hg2 HDo r0' r1' H4
      unfold dsC
      go_upto_region 8 with fail
      change Code.wp _ _ _ _ (x6.alloc (.cells (dsC ⟨f, c, h, tl, e0, false⟩) tDS))
      rw [← hX]
      clear hX
      generalize Grow F0 x4 x7 = G0 at *
      generalize x6.heap.size = X at *
      have HSm := Lib.hid (same_any (w := x7) _ _ Ls Ls HLs.out.1 HLs.out.2)
      rw [decide_eq_true (rfl : Ls = Ls)] at HSm
      have h0e : ((0 : Int) == 0) = true := rfl
      go_wp2_with fail
      refine HSm.out.mono ?_
      rintro e x8 ⟨rfl, hb8⟩
      have HP8 := Lib.hid (HPp.out.on hb8)
      clear hb8 HSm HLs HPp
      generalize (⟨f, c, h, tl, e0, false⟩ : S) = s0 at *
      go_wp2_with fail
      go_loopw [9, 13, 99] (fun vp vq vi x => ∃ (j p q : Nat) (t : Tray (List UInt8)) (s : S) (F G : Nat → Prop) (kv cv : Value), j ≤ l.length ∧ vp = ptr p ∧ vq = ptr q ∧ vi = .int .i64 (j : Int) ∧ Hid (Pp w x p q R X w.heap.size t s F G kv cv j)) (fun _ _ vi _ => l.length - (intOf vi).toNat)
      case atStart => exact ⟨0, p, q, _, _, _, _, _, _, Nat.zero_le _, rfl, rfl, rfl, HP8.out⟩
      case round =>
        clear HP8
        obtain ⟨j, p, q, t, s, F, G, kv, cv, hj, rfl, rfl, rfl, HP⟩ := hrel
        have hj40 : j ≤ 40 := Nat.le_trans hj HFew.out.1
        by_cases hlt : j < l.length
        · obtain ⟨g, o, hix, ob, oc, cb, cc, a0, a1, a2, a3, hbs, hfs⟩ := act_at HV.out HP.out.pq.pl.below hlt
          have hac := HFew.out.2 _ (List.getElem_mem hlt)
          generalize l[j] = ac at *
          obtain ⟨kd, at_, bb, fc⟩ := ac
          simp only at a0 a1 a2 a3 hbs hfs hac
          obtain ⟨Y, hY⟩ : ∃ X, X = wr.alloc (.cells #[.int .i64 kd, .int .i64 at_, .slice ob bb.length cb, .slice oc fc.length cc] tAc) := ⟨_, rfl⟩
          have hbx : Below wr.heap.size wr Y := by rw [hY]; exact (Below.refl _ _).alloc (Nat.le_refl _) _
          have hbox : Y.heap[wr.heap.size]? = some (.cells #[.int .i64 kd, .int .i64 at_, .slice ob bb.length cb, .slice oc fc.length cc] tAc (0, 0)) := by rw [hY]; exact heap_alloc_new wr _
          have HX := Lib.hid (And.intro (HP.out.on hbx) (And.intro hbox (And.intro hbs (And.intro hfs (And.intro hac (show ∀ k, (G k ∨ k = R) → k ≠ wr.heap.size from fun k hk e => by
            rcases hk with hk | hk
            · have := HP.out.pq.pl.low k hk; omega
            · have := HP.out.pq.pl.box.lt; omega))))))
          clear hbx hbox hbs hfs hac
          go_upto_region 15 with fail
          rw [← hY]
          clear hY a0 a1 a2 a3 hix HP
          generalize wr.heap.size = A at *
          obtain ⟨q0, q1, q2, q3⟩ : Y.cell? ⟨A, 0, none⟩ = some (.int .i64 kd) ∧ Y.cell? ⟨A, 1, none⟩ = some (.int .i64 at_) ∧ Y.cell? ⟨A, 2, none⟩ = some (.slice ob bb.length cb) ∧ Y.cell? ⟨A, 3, none⟩ = some (.slice oc fc.length cc) := by
            refine ⟨?_, ?_, ?_, ?_⟩ <;> (rw [Lib.cell_of_heap HX.out.2.1]; rfl)
          have hGA := HX.out.2.2.2.2.2
          have HGA := Lib.hid (show A ≠ R ∧ A ≠ X ∧ A ≠ q ∧ ¬ F A ∧ ¬ G A from ⟨fun e => hGA R (.inr rfl) e.symm, fun e => hGA X (.inl HX.out.1.pq.offX.1) e.symm, fun e => hGA q (.inl HX.out.1.offq.1) e.symm, fun hk => hGA A (.inl (HX.out.1.pq.pl.sub _ hk)) rfl, fun hk => hGA A (.inl hk) rfl⟩)
          have HRX := Lib.hid (show R ≠ X ∧ R ≠ q ∧ q ≠ X from ⟨fun e => HX.out.1.pq.pl.off.2 (e ▸ HX.out.1.pq.offX.1), fun e => HX.out.1.pq.pl.off.2 (e ▸ HX.out.1.offq.1), HX.out.1.offq.2.2⟩)
          have HSz := Lib.hid (show t.kept.length + t.cache.length ≤ 10 * j ∧ 10 * j ≤ 400 ∧ bb.length ≤ 600 ∧ fc.length ≤ 200 from ⟨HX.out.1.pq.pl.few, by omega, HX.out.2.2.2.2.1⟩)
          clear hGA
          go_upto_block 2 with fail
          go_cut [9, 13, 21, 22] (fun s9 s13 s21 s22 wx => ∃ c : Int, s21 = .int .i64 c ∧ s22 = .int .i64 c ∧ wx.cell? ⟨A, 0, none⟩ = some (.int .i64 kd) ∧ ((kd = 4 ∧ c = 1 ∧ s13 = .pointer none ∧ Hid (Below w.heap.size w wx)) ∨ ((kd = 4 → c = 0) ∧ ∃ (p' q' : Nat) (t' : Tray (List UInt8)) (s' : S) (F' G' : Nat → Prop) (kv' cv' : Value), s9 = ptr p' ∧ s13 = ptr q' ∧ Hid (Pp w wx p' q' R X w.heap.size t' s' F' G' kv' cv' (j + 1)))))
          case first =>
            by_cases hk1 : kd = 1
            · have ek1 : (kd == 1) = true := by simp [hk1]
              have HK1 := Lib.hid hk1
              clear hk1
              have HEr := Lib.hid (Ta.empty_brow Y)
              have HBz := Lib.hid (show Below Y.heap.size Y (Y.alloc (.cells #[] Ta.tBy)) from (Below.refl _ _).alloc (Nat.le_refl _) _)
              have HBt := Lib.hid (show IsBytes (Y.alloc (.cells #[] Ta.tBy)) (.slice ob bb.length cb) bb from HX.out.2.2.1.below (HX.out.1.pq.pl.below.trans (HBz.out.mono HX.out.1.pq.pl.below.size)))
              have hAl : A < Y.heap.size := (Array.getElem?_eq_some_iff.1 HX.out.2.1).1
              have qz2 := (HBz.out.cell (p := ⟨A, 2, none⟩) hAl).trans q2
              go_wp2_with (at_builtin; refine Ta.walk_by rfl _ _ rfl rfl rfl HEr.out HBz.out.size HBt.out (by have := HSz.out; omega) ?_)
              intro ow z o5 g5 n5
              have hbz : Below Y.heap.size Y z := HBz.out.grown g5 HBz.out.size fun k hk => (HEr.out.lt k hk).1
              have hsl := own_slice o5
              have HOw := Lib.hid (And.intro o5 hbz)
              have HPz := Lib.hid (HX.out.1.on hbz)
              have HW := Lib.hid (append_any ow bb HPz.out.sp HPz.out.pq.fits HPz.out.pq.pl.is HPz.out.pq.room HPz.out.offq.2.1 (Ta.own_bytes o5 fun k hk => HX.out.1.pq.pl.is.low k hk) (by have := HSz.out; omega) (by have := HSz.out; omega))
              obtain ⟨oa, op, rfl⟩ := hsl
              clear o5 g5 n5 hbz HEr HBz HBt qz2 q0 q1 q2 q3
              have has := append_same s bb t
              have haf := append_few s bb t
              generalize hap : append s bb t = ap at *
              obtain ⟨t1, s1, cd⟩ := ap
              have HAp := Lib.hid (And.intro hap (And.intro has haf))
              clear hap has haf
              simp only at HW HAp
              go_wp2_with fail
              refine HW.out.mono ?_
              rintro e z1 ⟨rfl, ht1, hsp, F', hi, hs⟩
              have htF : Turns (fun k => F k ∨ k = q) Y z1 := Turns.after_below HOw.out.2 ht1
              have htG : Turns G Y z1 := htF.mono fun k _ hk => hk.elim (HX.out.1.pq.pl.sub k) fun e => by rw [e]; exact HX.out.1.offq.1
              have hD := HX.out.1.pq.pl.doc htG
              have hbR := HX.out.1.pq.pl.box.turn htF fun hk => hk.elim (fun hk => HX.out.1.pq.pl.off.2 (HX.out.1.pq.pl.sub _ hk)) HRX.out.2.1
              have hbX := HX.out.1.pq.ds.turn htF fun hk => hk.elim HX.out.1.pq.offX.2 fun e => HRX.out.2.2 e.symm
              have hbA := htF.heap HX.out.2.1 fun hk => hk.elim HGA.out.2.2.2.1 HGA.out.2.2.1
              have hbb : IsBytes z1 (.slice ob bb.length cb) bb := HX.out.2.2.1.below (HX.out.1.pq.pl.below.trans (htG.below HX.out.1.pq.pl.below.size HX.out.1.pq.pl.new))
              have HDa := Lib.hid (dapp_any _ 12 _ (.slice ob bb.length cb) t s bb z1 hD.2 hD.1 HX.out.1.pq.fits HX.out.1.pq.room (by omega) hbb (by have := HSz.out; omega) HX.out.1.pq.pl.is.left (by have := HSz.out; omega))
              rw [HAp.out.1] at HDa
              simp only at HDa
              unfold Ta.trV dsC at HDa
              have HZ1 := Lib.hid (And.intro htF (And.intro hsp (And.intro hi (And.intro (show ∀ k, F' k → F k ∨ Y.heap.size ≤ k from fun k hk => (hs k hk).imp id fun h => Nat.le_trans HOw.out.2.size h) (And.intro hbR (And.intro hbX (And.intro hbA (And.intro ht1 hs))))))))
              obtain ⟨c0, c1, c2, c3, c4⟩ := hbR.cells
              obtain ⟨d0, d1, d2, d3, d4, d5⟩ := hbX.cells
              have s2 : z1.cell? ⟨A, 2, none⟩ = some (.slice ob bb.length cb) := by rw [Lib.cell_of_heap hbA]; rfl
              obtain ⟨ka, kq, hka⟩ := HX.out.1.pq.pl.dk.now.slice
              obtain ⟨ca, cq, hca⟩ := HX.out.1.pq.pl.dc.now.slice
              subst hka hca
              clear ht1 hsp hi hs htF htG hD hbR hbX hbA hbb HW
              go_wp2_with fail
              refine HDa.out.mono ?_
              rintro e z2 ⟨v', rfl, ⟨kv', cv', rfl, hk', hc'⟩, hb⟩
              have hg := HAp.out.2.1
              have hpl : parts bb.length ≤ 6 := by have := HSz.out; unfold parts; omega
              have hPn := HX.out.1.append HZ1.out.1 HZ1.out.2.1 HZ1.out.2.2.1 HZ1.out.2.2.2.1 hb hk' hc' (by have := HAp.out.2.2; have := HSz.out; omega) ⟨hg.1, hg.2.1⟩ (by
                have h1 := HX.out.1.pq.fits
                have h2 := HX.out.1.pq.tail
                exact ⟨by rw [hg.2.1]; exact h1.count, by rw [hg.1]; exact h1.first, by rw [hg.2.2.1]; exact Nat.le_trans h1.head hg.2.2.2.2.1, by have := hg.2.2.2.2.2; omega, by rw [hg.2.2.2.1]; exact h1.epoch⟩) (by have h2 := HX.out.1.pq.tail; have := hg.2.2.2.2.2; omega)
              have hA2 := (hb.block A (Array.getElem?_eq_some_iff.1 HZ1.out.2.2.2.2.2.2.1).1).trans HZ1.out.2.2.2.2.2.2.1
              have h5 := Ta.st5_turns z2 R (.int .i64 ((12 : Nat) : Int)) kv' cv' (.int .i64 t1.left) (.bool t1.dark)
              have h6 := st6_turns (st5 z2 R (.int .i64 ((12 : Nat) : Int)) kv' cv' (.int .i64 t1.left) (.bool t1.dark)) X s1
              have hA3 := h6.heap (h5.heap hA2 HGA.out.1) HGA.out.2.1
              have hro := own_below (own_turn HOw.out.1 HZ1.out.2.2.2.2.2.2.2.1 fun k hk hf => by
                have h1 := (HOw.out.1.lt k hk).1
                rcases hf with hf | hf
                · have := HX.out.1.pq.pl.is.low k hf; omega
                · have := HX.out.1.sp.lt; omega) hb
              have hro2 := own_turn (own_turn hro h5 fun k hk e => by have := (HOw.out.1.lt k hk).1; have := HX.out.1.pq.pl.box.lt; omega) h6 fun k hk e => by have := (HOw.out.1.lt k hk).1; have := HX.out.1.pq.ds.lt; omega
              have hgo : ∀ k, (Value.slice oa bb.length op).ownBlock = some k → (Grow G Y z1 k ∧ ¬ F' k ∧ k ≠ q ∧ k ≠ X ∧ k ≠ A) := fun k hk => by
                have h1 := HOw.out.1.lt k hk
                have h2 := HZ1.out.2.2.2.2.2.2.2.1.size
                refine ⟨.inr ⟨h1.1, by omega⟩, fun hf => ?_, by have := HX.out.1.sp.lt; omega, by have := HX.out.1.pq.ds.lt; omega, by omega⟩
                rcases HZ1.out.2.2.2.2.2.2.2.2 k hf with hf | hf
                · have := HX.out.1.pq.pl.is.low k hf; omega
                · omega
              have hq0 := HZ1.out.2.2.2.2.1.on hb
              have hx0 := HZ1.out.2.2.2.2.2.1.on hb
              clear c0 c1 c2 c3 c4 d0 d1 d2 d3 d4 d5 s2
              obtain ⟨k1, k2, hkv⟩ := hk'.now.slice
              obtain ⟨k3, k4, hcv⟩ := hc'.now.slice
              subst hkv hcv
              have HFin := Lib.hid (And.intro hPn (And.intro hA3 (And.intro hro2 hgo)))
              obtain ⟨c0, c1, c2, c3, c4⟩ := hq0.cells
              obtain ⟨f0, f1, f2, f3, f4⟩ := hq0.free
              obtain ⟨d0, d1, d2, d3, d4, d5⟩ := hx0.cells
              have r0 := hx0.free 0
              have r1 := hx0.free 1
              have r2 := hx0.free 2
              have r3 := hx0.free 3
              have r4 := hx0.free 4
              have r5 := hx0.free 5
              have hRX := HRX.out.1
              have hXR : X ≠ R := fun e => hRX e.symm
              clear hPn hA2 hA3 h5 h6 hro hro2 hgo hq0 hx0 hk' hc' hb hg hpl hAl
              unfold Ta.trV
              go_upto_region 21 with fail
              clear c0 c1 c2 c3 c4 f0 f1 f2 f3 f4 d0 d1 d2 d3 d4 d5 r0 r1 r2 r3 r4 r5 HDa hRX hXR
              change Code.wp _ _ _ _ (st6 (st5 z2 R (.int .i64 ((12 : Nat) : Int)) (.slice k1 t1.kept.length k2) (.slice k3 t1.cache.length k4) (.int .i64 t1.left) (.bool t1.dark)) X s1)
              generalize st6 (st5 z2 R (.int .i64 ((12 : Nat) : Int)) (.slice k1 t1.kept.length k2) (.slice k3 t1.cache.length k4) (.int .i64 t1.left) (.bool t1.dark)) X s1 = Z3 at *
              have HB6 := Lib.hid HSz.out.2.2.1
              go_wp2_with fail
              go_loopw [125] (fun vi y => ∃ i : Nat, i ≤ bb.length ∧ vi = .int .i64 (i : Int) ∧ Hid (Pp w y p q R X w.heap.size t1 s1 F' (Grow G Y z1) (.slice k1 t1.kept.length k2) (.slice k3 t1.cache.length k4) (j + 1) ∧ y.heap[A]? = some (.cells #[.int .i64 kd, .int .i64 at_, .slice ob bb.length cb, .slice oc fc.length cc] tAc (0, 0)) ∧ ∃ xs, y.ownsRow Y.heap.size Ta.tBy 1 (.slice oa bb.length op) bb.length xs ∧ ∀ u ∈ xs, ∃ q, u = .int .u8 q)) (fun vi _ => bb.length - (intOf vi).toNat)
              case atStart =>
                refine ⟨0, by omega, rfl, ⟨HFin.out.1, HFin.out.2.1, _, HFin.out.2.2.1, fun u hu => ?_⟩⟩
                simp only [Lib.byteCells, List.mem_map] at hu
                obtain ⟨q, -, rfl⟩ := hu
                exact ⟨_, rfl⟩
              case round =>
                obtain ⟨i, hi, rfl, HI⟩ := hrel
                have hb2 := HB6.out
                by_cases hlt2 : i < bb.length
                · obtain ⟨hpl, hbA, xs, hrow, hxs⟩ := HI.out
                  obtain ⟨m, hm⟩ : ∃ m, bb.length = m + 1 := ⟨bb.length - 1, by omega⟩
                  have hrow' := hrow
                  rw [hm] at hrow'
                  obtain ⟨gO, oc2, hv, -, -, -, -⟩ := own_open hrow'
                  obtain ⟨rfl, -, rfl⟩ := Value.slice.inj hv
                  have hgo := HFin.out.2.2.2 gO rfl
                  have hl := hrow.1
                  have hix : ∀ W, (Instr.indexAt Ta.tBs (.slice (some ⟨gO, 0, none⟩) bb.length op) (.int .i64 (i : Int))).run Try.prog W = .ok (.pointer (some ⟨gO, i, none⟩)) W := fun W => by
                    have hz : ∀ w, (sizeOf (Try.prog.elem Ta.tBs)).run Try.prog w = .ok 1 w := fun w => by kernel_rfl
                    rw [run_indexAt_slice W _ _ _ _ _ _ Try.underlying22, if_pos ⟨by omega, by omega⟩, hz]
                    have e : ((i : Int)).toNat = i := by omega
                    simp only [Result.andThen_ok, e, Addr.add_lit, Nat.mul_one, Nat.zero_add]
                  obtain ⟨qq, hqq⟩ := hxs (xs[i]'(by omega)) (List.getElem_mem _)
                  have hcell : wr.cell? ⟨gO, i, none⟩ = some (.int .u8 qq) := by rw [hrow.cellAt i (by omega), List.getElem?_eq_getElem (by omega), hqq]
                  have hfr : wr.frozen? ⟨gO, i, none⟩ = false := hrow.frozenAt i
                  have HNx := Lib.hid (show ∀ u : Int, Pp w (wr.setCell ⟨gO, i, none⟩ (.int .u8 u)) p q R X w.heap.size t1 s1 F' (Grow G Y z1) (.slice k1 t1.kept.length k2) (.slice k3 t1.cache.length k4) (j + 1) ∧ (wr.setCell ⟨gO, i, none⟩ (.int .u8 u)).heap[A]? = some (.cells #[.int .i64 kd, .int .i64 at_, .slice ob bb.length cb, .slice oc fc.length cc] tAc (0, 0)) ∧ ∃ xs, (wr.setCell ⟨gO, i, none⟩ (.int .u8 u)).ownsRow Y.heap.size Ta.tBy 1 (.slice (some ⟨gO, 0, none⟩) bb.length op) bb.length xs ∧ ∀ u ∈ xs, ∃ q, u = .int .u8 q from fun u => by
                    obtain ⟨o1, g1⟩ := hrow.stored i (.int .u8 u)
                    have ht := Turns.of_grown g1 fun k hk => (Option.some.inj hk).symm
                    refine ⟨hpl.scratch hgo.1 hgo.2.1 hgo.2.2.1 hgo.2.2.2.1 ht, ht.heap hbA fun e => hgo.2.2.2.2 e.symm, _, o1, fun x hx => ?_⟩
                    rcases List.mem_or_eq_of_mem_set hx with hx | rfl
                    · exact hxs x hx
                    · exact ⟨_, rfl⟩)
                  clear hpl hbA hrow hrow' hxs hgo hl hv hm hqq
                  go_wp2_with fail
                  go_roundw
                  case rel => exact ⟨i + 1, by omega, by go_num, HNx.out _⟩
                  case measure => simp [intOf]; omega
                · have hne : ¬ (i : Int) < (bb.length : Int) := by omega
                  have hkA : wr.cell? ⟨A, 0, none⟩ = some (.int .i64 kd) := by rw [Lib.cell_of_heap HI.out.2.1]; rfl
                  have HkA := Lib.hid hkA
                  clear hlt2 hkA
                  go_wp2_with fail
                  go_meet
                  case rel => exact ⟨cd, rfl, rfl, HkA.out, .inr ⟨fun h => by have := HK1.out; omega, p, q, t1, s1, F', Grow G Y z1, _, _, rfl, rfl, HI.out.1⟩⟩
            · have ek1 : (kd == 1) = false := by simp [hk1]
              by_cases hk2 : kd = 2
              · have ek2 : (kd == 2) = true := by simp [hk2]
                have HK2 := Lib.hid hk2
                clear hk1 hk2
                have HCt := Lib.hid (cut_any HX.out.1.sp)
                have hAl : A < Y.heap.size := (Array.getElem?_eq_some_iff.1 HX.out.2.1).1
                go_wp2_with fail
                refine HCt.out.mono ?_
                rintro e z1 ⟨rfl, ht, hsp⟩
                have HPn := Lib.hid (HX.out.1.cut ht hsp)
                have hX1 := HX.out.1.pq.ds.turn ht fun e => HRX.out.2.2 e.symm
                have hA1 := ht.heap HX.out.2.1 HGA.out.2.2.1
                have hA2 := (turn1 z1 X 3 (.int .i64 (s.tail : Int))).heap hA1 HGA.out.2.1
                have HkA := Lib.hid (show (z1.setCell ⟨X, 3, none⟩ (.int .i64 (s.tail : Int))).cell? ⟨A, 0, none⟩ = some (.int .i64 kd) from by rw [Lib.cell_of_heap hA2]; rfl)
                have d4 := hX1.cells.2.2.2.2.1
                have d3 := hX1.cells.2.2.2.1
                have f3 := hX1.free 3
                clear ht hsp hX1 hA1 hA2 hAl HCt q0 q1 q2 q3
                go_wp2_with fail
                go_meet
                case rel => exact ⟨0, rfl, rfl, HkA.out, .inr ⟨fun _ => rfl, p, q, t, { s with head := s.tail }, F, G, _, _, rfl, rfl, HPn.out.more (Nat.le_succ j)⟩⟩
              · have ek2 : (kd == 2) = false := by simp [hk2]
                by_cases hk3 : kd = 3
                · have ek3 : (kd == 3) = true := by simp [hk3]
                  have HK3 := Lib.hid hk3
                  clear hk1 hk2 hk3
                  obtain ⟨cd, hcd⟩ : ∃ cd : Int, cd = (if 0 ≤ at_ ∧ at_ ≤ 1099511627776 then 0 else 1) := ⟨_, rfl⟩
                  obtain ⟨t3, ht3⟩ : ∃ t3 : Tray (List UInt8), t3 = (if 0 ≤ at_ ∧ at_ ≤ 1099511627776 then t.power at_ else t) := ⟨_, rfl⟩
                  have HPw := Lib.hid (Ta.power_any at_ HX.out.1.pq.pl.is)
                  rw [← hcd, ← ht3] at HPw
                  have HCd := Lib.hid (And.intro hcd ht3)
                  clear hcd ht3
                  go_wp2_with fail
                  refine HPw.out.mono ?_
                  rintro e z1 ⟨rfl, ht0, hi⟩
                  have ht : Turns F Y z1 := ht0.mono fun _ _ e => by rw [e]; exact HX.out.1.pq.pl.is.fp
                  have hD := HX.out.1.pq.pl.doc (HX.out.1.pq.pl.turns ht)
                  have HDf := Lib.hid (Ta.dpower_any _ 12 _ t at_ z1 hD.1)
                  rw [← HCd.out.1, ← HCd.out.2] at HDf
                  unfold Ta.trV at HDf
                  have hbR := HX.out.1.pq.pl.box.turn ht fun hf => HX.out.1.pq.pl.off.2 (HX.out.1.pq.pl.sub _ hf)
                  have hbA := ht.heap HX.out.2.1 HGA.out.2.2.2.1
                  have HZ1 := Lib.hid (And.intro ht (And.intro hi (And.intro hbR hbA)))
                  obtain ⟨c0, c1, c2, c3, c4⟩ := hbR.cells
                  have r1 : z1.cell? ⟨A, 1, none⟩ = some (.int .i64 at_) := by rw [Lib.cell_of_heap hbA]; rfl
                  obtain ⟨ka, kq, hka⟩ := HX.out.1.pq.pl.dk.now.slice
                  obtain ⟨ca, cq, hca⟩ := HX.out.1.pq.pl.dc.now.slice
                  subst hka hca
                  clear ht hi hD hbR hbA HPw q0 q1 q2 q3 ht0
                  go_wp2_with fail
                  refine HDf.out.mono ?_
                  rintro e z2 ⟨v', rfl, ⟨kv', cv', rfl, hk', hc'⟩, hb⟩
                  have hfew : t3.kept.length + t3.cache.length ≤ 10 * (j + 1) := by
                    have := HSz.out
                    rw [HCd.out.2]
                    split
                    · show t.kept.length + t.cache.length ≤ _
                      omega
                    · omega
                  have h5 := Ta.st5_turns z2 R (.int .i64 ((12 : Nat) : Int)) kv' cv' (.int .i64 t3.left) (.bool t3.dark)
                  have hA3 := h5.heap ((hb.block A (Array.getElem?_eq_some_iff.1 HZ1.out.2.2.2).1).trans HZ1.out.2.2.2) HGA.out.1
                  have hkA : (st5 z2 R (.int .i64 ((12 : Nat) : Int)) kv' cv' (.int .i64 t3.left) (.bool t3.dark)).cell? ⟨A, 0, none⟩ = some (.int .i64 kd) := by rw [Lib.cell_of_heap hA3]; rfl
                  have hpn := HX.out.1.power HZ1.out.1 HZ1.out.2.1 hb hk' hc' hfew
                  obtain ⟨k1, k2, hkv⟩ := hk'.now.slice
                  obtain ⟨k3, k4, hcv⟩ := hc'.now.slice
                  subst hkv hcv
                  have HFin := Lib.hid (And.intro hpn hkA)
                  have hb2R := HZ1.out.2.2.1.on hb
                  clear r1 c0 c1 c2 c3 c4
                  obtain ⟨c0, c1, c2, c3, c4⟩ := hb2R.cells
                  obtain ⟨f0, f1, f2, f3, f4⟩ := hb2R.free
                  clear hk' hc' hb hb2R hfew h5 hA3 hkA hpn
                  unfold Ta.trV
                  go_wp2_with fail
                  go_meet
                  case rel => exact ⟨cd, rfl, rfl, HFin.out.2, .inr ⟨fun h => by have := HK3.out; omega, p, q, t3, s, F, Grow G Y z1, _, _, rfl, rfl, HFin.out.1⟩⟩
                · have ek3 : (kd == 3) = false := by simp [hk3]
                  by_cases hk4 : kd = 4
                  · have ek4 : (kd == 4) = true := by simp [hk4]
                    have HK4 := Lib.hid hk4
                    clear hk1 hk2 hk3 hk4
                    have hAl : A < Y.heap.size := (Array.getElem?_eq_some_iff.1 HX.out.2.1).1
                    have hdr : Below Y.heap.size Y Y.drew := (Below.refl _ _).drew
                    have HXd := Lib.hid (HX.out.1.on hdr)
                    have hfw := HX.out.2.2.2.1.below HXd.out.pq.pl.below
                    have HLs := Lib.hid (Ta.lose_any HXd.out.pq.pl.is (.slice oc fc.length cc) fc hfw (by have := HSz.out; omega))
                    obtain ⟨ka, kq, hka⟩ := HX.out.1.pq.pl.dk.now.slice
                    obtain ⟨ca, cq, hca⟩ := HX.out.1.pq.pl.dc.now.slice
                    subst hka hca
                    have HF := Lib.hid (show ∀ x, Below Y.heap.size Y x → x.cell? ⟨A, 3, none⟩ = some (.slice oc fc.length cc) ∧ x.cell? ⟨R, 0, none⟩ = some (.int .i64 (12 : Int)) ∧ x.cell? ⟨R, 1, none⟩ = some (.slice ka t.kept.length kq) ∧ x.cell? ⟨R, 2, none⟩ = some (.slice ca t.cache.length cq) ∧ x.cell? ⟨R, 3, none⟩ = some (.int .i64 t.left) ∧ x.cell? ⟨R, 4, none⟩ = some (.bool t.dark) from fun x hx =>
                      ⟨(hx.cell (p := ⟨A, 3, none⟩) hAl).trans q3, (HX.out.1.pq.pl.box.on hx).cells⟩)
                    have d3 := HX.out.1.pq.ds.cells.2.2.2.1
                    clear hdr hfw q1 q2 q3
                    go_upto_region 34 with fail
                    clear d3 q0
                    refine Order.beginE (fun x => Below Y.heap.size Y x) [9] (by kernel_rfl) ?_
                    refine Order.readsE_any (idx := [0, 1, 2, 4, 5, 6]) (by kernel_rfl) (Below.refl _ _).drew (fun _ _ _ _ _ h => Order.noPanic_put h) 4 _ _ (by decide +kernel) ?_
                    simp only [Order.pick, List.getElem?_toArray, List.getElem?_cons_zero, List.getElem?_cons_succ]
                    repeat (first
                      | (refine Order.reads_off (by rfl) ?_
                         simp only [Act.put, List.setIfInBounds_toArray, List.set_cons_zero, List.set_cons_succ])
                      | (apply Order.reads_on
                         · rfl
                         · intro x hx
                           first
                             | (obtain ⟨h0, h1, h2, h3, h4, h5⟩ := HF.out x hx
                                exact Order.load_at rfl rfl (by assumption))
                             | (go_simp; rfl)
                             | (obtain ⟨h0, h1, h2, h3, h4, h5⟩ := HF.out x hx
                                go_simp; rfl)
                         simp only [Act.put, List.setIfInBounds_toArray, List.set_cons_zero, List.set_cons_succ]))
                    refine Order.reads_end ?_
                    apply Order.actE (i := 3)
                    · rfl
                    · decide +kernel
                    · rfl
                    unfold Oper.wp
                    go_simp
                    refine Calls.mono HLs.out ?_
                    rintro e z1 ⟨p', rfl, -, hb1, hi1⟩
                    have hb01 : Below Y.heap.size Y z1 := (Below.refl Y.heap.size Y).drew.trans hb1
                    refine ⟨hb01, ?_⟩
                    have hD := HXd.out.pq.pl.doc (Turns.of_below hb1)
                    have HDf := Lib.hid (Ta.dlose_any _ 12 _ t (.slice oc fc.length cc) fc z1 hD.2 hD.1 (HX.out.2.2.2.1.below (HX.out.1.pq.pl.below.trans (hb01.mono HX.out.1.pq.pl.below.size))) (by have := HSz.out; omega))
                    unfold Ta.trV at HDf
                    have HZ1 := Lib.hid (And.intro hb1 (And.intro hi1 hb01))
                    clear hb1 hi1 hD HLs hb01
                    apply Order.actE (i := 7)
                    · rfl
                    · decide +kernel
                    · rfl
                    unfold Oper.wp
                    go_simp
                    refine Calls.mono HDf.out ?_
                    rintro e z2 ⟨v', rfl, ⟨kv', cv', rfl, hk', hc'⟩, hb⟩
                    have hb02 : Below Y.heap.size Y z2 := HZ1.out.2.2.trans (hb.mono HZ1.out.2.2.size)
                    refine ⟨hb02, ?_⟩
                    obtain ⟨tL, htL⟩ : ∃ tL, tL = t.lose fc := ⟨_, rfl⟩
                    rw [← htL] at hk' hc' HZ1 ⊢
                    have hfew : tL.kept.length + tL.cache.length ≤ 10 * (j + 1) := by
                      have := HSz.out
                      have := Ta.pick_length t.cache fc
                      rw [htL]
                      show (t.kept ++ Ta.pick t.cache fc).length + 0 ≤ _
                      rw [List.length_append]
                      omega
                    have hpq := HXd.out.pq.tray (Turns.of_below HZ1.out.1) HZ1.out.2.1 (fun _ hk => .inr hk.1) hb hk' hc' hfew
                    obtain ⟨k1, k2, hkv⟩ := hk'.now.slice
                    obtain ⟨k3, k4, hcv⟩ := hc'.now.slice
                    subst hkv hcv
                    have hA3 := (Ta.st5_turns z2 R (.int .i64 ((12 : Nat) : Int)) (.slice k1 tL.kept.length k2) (.slice k3 tL.cache.length k4) (.int .i64 tL.left) (.bool tL.dark)).heap ((hb02.block A hAl).trans HX.out.2.1) HGA.out.1
                    have hb2R := HX.out.1.pq.pl.box.on hb02
                    obtain ⟨c0, c1, c2, c3, c4⟩ := hb2R.cells
                    obtain ⟨f0, f1, f2, f3, f4⟩ := hb2R.free
                    have HB2 := Lib.hid hb02
                    obtain ⟨Z3, hZ3⟩ : ∃ x, x = st5 z2 R (.int .i64 ((12 : Nat) : Int)) (.slice k1 tL.kept.length k2) (.slice k3 tL.cache.length k4) (.int .i64 tL.left) (.bool tL.dark) := ⟨_, rfl⟩
                    rw [← hZ3] at hpq hA3
                    have HP3 := Lib.hid (And.intro hpq hA3)
                    clear hk' hc' hb hb2R hfew hb02 hpq hA3 htL
                    unfold Ta.trV
                    unfold st5 at hZ3
                    refine Order.readsE_any (idx := [8]) (by kernel_rfl) HB2.out (fun _ _ _ _ _ h => Order.noPanic_put h) 1 _ _ (by decide +kernel) ?_
                    simp only [Order.pick, List.getElem?_toArray, List.getElem?_cons_zero, List.getElem?_cons_succ]
                    repeat (first
                      | (refine Order.reads_off (by rfl) ?_
                         simp only [Act.put, List.setIfInBounds_toArray, List.set_cons_zero, List.set_cons_succ])
                      | (apply Order.reads_on
                         · rfl
                         · intro x hx
                           first
                             | (go_simp; rfl)
                             | (fail
                                go_simp; rfl)
                         simp only [Act.put, List.setIfInBounds_toArray, List.set_cons_zero, List.set_cons_succ]))
                    refine Order.reads_end ?_
                    apply Order.lastE (i := 9)
                    · rfl
                    · decide +kernel
                    · decide
                    · rfl
                    unfold Oper.wp
                    go_simp
                    refine Order.doneE (by decide +kernel) ?_ _
                    refine NoPanic.normal ?_
                    simp only [Int.cast_ofNat_Int] at hZ3
                    rw [← hZ3]
                    clear HF c0 c1 c2 c3 c4 f0 f1 f2 f3 f4 hZ3 HDf HXd
                    generalize Grow G Y.drew z1 = G3 at *
                    generalize Made Y.drew z1 = F3 at *
                    obtain ⟨r0, r1⟩ : Z3.cell? ⟨w.heap.size, 0, none⟩ = some (.int .i64 (s.first : Int)) ∧ Z3.cell? ⟨w.heap.size, 1, none⟩ = some (.int .i64 (s.count : Int)) := by
                      constructor <;> (rw [Lib.cell_of_heap HP3.out.1.ring]; rfl)
                    have d2 := HP3.out.1.ds.cells.2.2.1
                    have hwe : IntKind.i64.wrap ((s.epoch : Int) + 1) = (s.epoch : Int) + 1 := by
                      have := HP3.out.1.fits.epoch
                      rw [IntKind.wrap_i64] <;> omega
                    by_cases ho : Opens 12 (s.first : Int) (s.count : Int) (s.head : Int) ((s.epoch : Int) + 1)
                    · have HO := Lib.hid (open_any (t := tL) ⟨s.first, s.count, s.head, s.head, s.epoch + 1, false⟩ rfl rfl (by simpa using ho) HP3.out.1.pl.is)
                      simp only at HO
                      rw [show ((s.epoch + 1 : Nat) : Int) = (s.epoch : Int) + 1 from rfl] at HO
                      go_wp2_with fail
                      refine HO.out.mono ?_
                      rintro e z4 ⟨q', vl, rfl, hb4, hq4, hsp, hrc, -, -⟩
                      have hp4 := HP3.out.1.on hb4
                      have hA4 := (hb4.block A (Array.getElem?_eq_some_iff.1 HP3.out.2).1).trans HP3.out.2
                      obtain ⟨c0, c1, c2, c3, c4⟩ := hp4.pl.box.cells
                      obtain ⟨t0, t1⟩ : z4.cell? ⟨w.heap.size, 0, none⟩ = some (.int .i64 (s.first : Int)) ∧ z4.cell? ⟨w.heap.size, 1, none⟩ = some (.int .i64 (s.count : Int)) := by
                        constructor <;> (rw [Lib.cell_of_heap hp4.ring]; rfl)
                      have d2' := hp4.ds.cells.2.2.1
                      have HDo := Lib.hid (dopen_any 12 (.slice k1 tL.kept.length k2) (.slice k3 tL.cache.length k4) tL ⟨s.first, s.count, s.head, s.head, s.epoch + 1, false⟩ z4 hp4.pl.dk.now hp4.pl.dc.now (fun a => Ta.read_len hp4.pl.is a) rfl rfl (by simpa using ho) (by omega))
                      unfold Ta.trV at HDo
                      simp only at HDo
                      rw [show ((s.epoch + 1 : Nat) : Int) = (s.epoch : Int) + 1 from rfl] at HDo
                      obtain ⟨la, lc, hla⟩ := hrc.slice
                      subst hla
                      have HEp := Lib.hid (show s.epoch + 1 ≤ 4294967295 from by have := ho.2.2.2.2; omega)
                      have H4 := Lib.hid (And.intro hb4 (And.intro hsp (And.intro hrc (And.intro hq4 (And.intro hA4 hp4)))))
                      clear hb4 hsp hrc hq4 hA4 hp4 HO ho r0 r1 d2
                      go_wp2_with fail
                      refine HDo.out.mono ?_
                      rintro e z5 ⟨vm, rfl, hb5, -, hg1, hg2, B5, hB5, hrm⟩
                      obtain ⟨ma, mc, hma⟩ := hrm.slice
                      subst hma
                      generalize found tL ⟨s.first, s.count, s.head, s.head, s.epoch + 1, false⟩ = fd at *
                      obtain ⟨Ls, tl⟩ := fd
                      simp only at H4 hrm hg1 hg2
                      obtain ⟨s', hs'⟩ : ∃ s' : S, s' = ⟨s.first, s.count, s.head, tl, s.epoch + 1, false⟩ := ⟨_, rfl⟩
                      have hpp := HP3.out.1.opened (s' := s') H4.out.1 (by rw [hs']; exact H4.out.2.1) H4.out.2.2.2.1 hb5 (by rw [hs']; exact ⟨rfl, rfl⟩) (by
                        have h1 := HP3.out.1.fits
                        have h2 := HP3.out.1.tail
                        have h3 := HP3.out.1.room
                        have h4 := HEp.out
                        have h5 := h1.head
                        rw [hs']
                        exact ⟨h1.count, h1.first, hg1, by show tl ≤ _; omega, by show 1 ≤ s.epoch + 1 ∧ s.epoch + 1 ≤ _; omega⟩) (by
                        have h2 := HX.out.1.pq.tail
                        have h3 := HP3.out.1.room
                        have h5 := HP3.out.1.fits.head
                        rw [hs']
                        show tl ≤ _
                        omega)
                      have h6 := st6_turns z5 X s'
                      have hA6 := h6.heap ((hb5.block A (Array.getElem?_eq_some_iff.1 H4.out.2.2.2.2.1).1).trans H4.out.2.2.2.2.1) HGA.out.2.1
                      have hX3 := HP3.out.1.ds.lt
                      have hl6 := (H4.out.2.2.1.below hb5).one h6 (.inl hX3) hX3
                      have hm6 := hrm.one h6 (by have := H4.out.1.size; show X < B5; omega) (by have := H4.out.1.size; omega)
                      have hx5 := H4.out.2.2.2.2.2.ds.on hb5
                      clear c0 c1 c2 c3 c4 t0 t1 d2'
                      obtain ⟨d0, d1, d2, d3, d4, d5⟩ := hx5.cells
                      have f0 := hx5.free 0
                      have f1 := hx5.free 1
                      have f2 := hx5.free 2
                      have f3 := hx5.free 3
                      have f4 := hx5.free 4
                      have f5 := hx5.free 5
                      obtain ⟨Z6, hZ6⟩ : ∃ x, x = st6 z5 X s' := ⟨_, rfl⟩
                      rw [← hZ6] at hpp hA6 hl6 hm6
                      have hkA : Z6.cell? ⟨A, 0, none⟩ = some (.int .i64 kd) := by rw [Lib.cell_of_heap hA6]; rfl
                      have HP6 := Lib.hid (And.intro hpp (And.intro hkA (And.intro hl6 hm6)))
                      rw [hs'] at hZ6
                      unfold st6 at hZ6
                      simp only at hZ6
                      clear hpp h6 hA6 hX3 hl6 hm6 hx5 hkA hs' hb5 hg1 hg2 hB5 hrm
                      unfold dsC
                      go_upto_region 37 with fail
                      rw [show ((s.epoch + 1 : Nat) : Int) = (s.epoch : Int) + 1 from rfl] at hZ6
                      rw [← hZ6]
                      clear hZ6 d0 d1 d2 d3 d4 d5 f0 f1 f2 f3 f4 f5 HDo H4
                      have HSm := Lib.hid (same_any (w := Z6) _ _ Ls Ls HP6.out.2.2.1 HP6.out.2.2.2)
                      rw [decide_eq_true (rfl : Ls = Ls)] at HSm
                      go_wp2_with fail
                      refine HSm.out.mono ?_
                      rintro e y1 ⟨rfl, hb1⟩
                      have HP7 := Lib.hid (show Pp w y1 p' q' R X w.heap.size tL s' F3 (Grow G3 Z3 z4) (.slice k1 tL.kept.length k2) (.slice k3 tL.cache.length k4) (j + 1) ∧ y1.cell? ⟨A, 0, none⟩ = some (.int .i64 kd) from ⟨HP6.out.1.on hb1, (hb1.cell (World.block_lt_of_cell? Z6 _ HP6.out.2.1)).trans HP6.out.2.1⟩)
                      clear hb1 HSm
                      go_wp2_with fail
                      go_meet
                      case rel => exact ⟨0, rfl, rfl, HP7.out.2, .inr ⟨fun _ => rfl, p', q', tL, s', F3, _, _, _, rfl, rfl, HP7.out.1⟩⟩
                    · have hfc := HP3.out.1.fits
                      have hrm := HP3.out.1.room
                      have HO := Lib.hid (open_bad (f := (s.first : Int)) (c := (s.count : Int)) (head := (s.head : Int)) (epoch := (s.epoch : Int) + 1) (by omega) (by omega) HP3.out.1.pl.is ho)
                      clear hfc hrm
                      go_wp2_with fail
                      refine HO.out.mono ?_
                      rintro e z4 ⟨rfl, hb4⟩
                      have hp4 := HP3.out.1.on hb4
                      have hA4 := (hb4.block A (Array.getElem?_eq_some_iff.1 HP3.out.2).1).trans HP3.out.2
                      obtain ⟨c0, c1, c2, c3, c4⟩ := hp4.pl.box.cells
                      obtain ⟨t0, t1⟩ : z4.cell? ⟨w.heap.size, 0, none⟩ = some (.int .i64 (s.first : Int)) ∧ z4.cell? ⟨w.heap.size, 1, none⟩ = some (.int .i64 (s.count : Int)) := by
                        constructor <;> (rw [Lib.cell_of_heap hp4.ring]; rfl)
                      have d2' := hp4.ds.cells.2.2.1
                      have HDo := Lib.hid (dopen_bad 12 (.slice k1 tL.kept.length k2) (.slice k3 tL.cache.length k4) tL (s.first : Int) (s.count : Int) (s.head : Int) ((s.epoch : Int) + 1) z4 ⟨_, _, _, rfl⟩ ⟨_, _, _, rfl⟩ ho (by omega))
                      unfold Ta.trV at HDo
                      have H4 := Lib.hid (And.intro hA4 hp4)
                      clear hb4 hA4 hp4 HO ho r0 r1 d2
                      go_wp2_with fail
                      refine HDo.out.mono ?_
                      rintro e z5 ⟨rfl, hb5⟩
                      have h6 := st6_turns z5 X zS
                      have hA6 := h6.heap ((hb5.block A (Array.getElem?_eq_some_iff.1 H4.out.1).1).trans H4.out.1) HGA.out.2.1
                      have hx5 := H4.out.2.ds.on hb5
                      have hbw : Below w.heap.size w (st6 z5 X zS) := (H4.out.2.on hb5).pl.below.trans (h6.below (H4.out.2.on hb5).pl.below.size fun k e => by rw [e]; exact H4.out.2.pl.new X H4.out.2.offX.1)
                      clear c0 c1 c2 c3 c4 t0 t1 d2'
                      obtain ⟨d0, d1, d2, d3, d4, d5⟩ := hx5.cells
                      have f0 := hx5.free 0
                      have f1 := hx5.free 1
                      have f2 := hx5.free 2
                      have f3 := hx5.free 3
                      have f4 := hx5.free 4
                      have f5 := hx5.free 5
                      have hkA : (st6 z5 X zS).cell? ⟨A, 0, none⟩ = some (.int .i64 kd) := by rw [Lib.cell_of_heap hA6]; rfl
                      have HP6 := Lib.hid (And.intro hbw hkA)
                      clear hbw h6 hA6 hx5 hkA hb5
                      unfold dsC
                      go_upto_region 37 with fail
                      change Code.wp _ _ _ _ (st6 z5 X zS)
                      generalize st6 z5 X zS = Z6 at *
                      clear d0 d1 d2 d3 d4 d5 f0 f1 f2 f3 f4 f5 HDo H4
                      have HSm := Lib.hid (same_any (w := Z6) _ _ [] [] (recs_none Z6) (recs_none Z6))
                      rw [decide_eq_true (rfl : ([] : List (List UInt8)) = [])] at HSm
                      go_wp2_with fail
                      refine HSm.out.mono ?_
                      rintro e y1 ⟨rfl, hb1⟩
                      have HP7 := Lib.hid (show Below w.heap.size w y1 ∧ y1.cell? ⟨A, 0, none⟩ = some (.int .i64 kd) from ⟨HP6.out.1.trans (hb1.mono HP6.out.1.size), (hb1.cell (World.block_lt_of_cell? Z6 _ HP6.out.2)).trans HP6.out.2⟩)
                      clear hb1 HSm
                      go_wp2_with fail
                      go_meet
                      case rel => exact ⟨1, rfl, rfl, HP7.out.2, .inl ⟨HK4.out, rfl, rfl, HP7.out.1⟩⟩
                  · have ek4 : (kd == 4) = false := by simp [hk4]
                    have HK4 := Lib.hid hk4
                    have HkA := Lib.hid q0
                    clear hk1 hk2 hk3 hk4 q0
                    go_wp2_with fail
                    go_meet
                    case rel => exact ⟨0, rfl, rfl, HkA.out, .inr ⟨fun _ => rfl, p, q, t, s, F, G, kv, cv, rfl, rfl, HX.out.1.more (Nat.le_succ j)⟩⟩
          case rest =>
            obtain ⟨c', rfl, rfl, qk, hor⟩ := hcut
            have hcc : (c' != c') = false := bne_self_eq_false c'
            rcases hor with ⟨hk4, hc1, rfl, HE⟩ | ⟨hkc, p', q', t', s', F', G', kv', cv', rfl, rfl, HPn⟩
            · have ek4 : (kd == 4) = true := by simp [hk4]
              have ec1 : (c' != 0) = true := by rw [hc1]; rfl
              clear hk4 hc1
              go_wp2_with fail
              go_ret
              exact ⟨rfl, HE.out⟩
            · go_upto_region 41 with fail
              clear hcc
              go_cut [205] (fun v wx => v = .bool false ∧ wc = wx)
              case first =>
                by_cases hk4 : kd = 4
                · have ek4 : (kd == 4) = true := by simp [hk4]
                  have ec1 : (c' != 0) = false := by rw [hkc hk4]; rfl
                  clear hk4 hkc
                  go_wp2_with fail
                  go_meet
                  case rel => exact ⟨rfl, rfl⟩
                · have ek4 : (kd == 4) = false := by simp [hk4]
                  clear hk4 hkc
                  go_wp2_with fail
                  go_meet
                  case rel => exact ⟨rfl, rfl⟩
              case rest =>
                obtain ⟨rfl, rfl⟩ := hcut
                clear qk hkc q0 q1 q2 q3
                go_upto_region 43 with fail
                have hfit := HPn.out.pq.fits
                have HHd := Lib.hid (show ∀ x, Below wc.heap.size wc x → _ from fun x hx => head_any (HPn.out.sp.on hx))
                have HTl := Lib.hid (show ∀ x, Below wc.heap.size wc x → _ from fun x hx => tail_any (HPn.out.sp.on hx))
                have HRm := Lib.hid (show ∀ x, Below wc.heap.size wc x → _ from fun x hx => room_any (HPn.out.sp.on hx) hfit)
                have HF := Lib.hid (show ∀ x, Below wc.heap.size wc x → _ from fun x hx => (HPn.out.pq.ds.on hx).cells)
                obtain ⟨g1, g2, g3, g4, g5⟩ := hfit
                have w1 : IntKind.i64.wrap ((s'.tail : Int) - (s'.head : Int)) = (s'.tail : Int) - (s'.head : Int) := by rw [IntKind.wrap_i64] <;> omega
                have w2 : IntKind.i64.wrap ((s'.count : Int) - ((s'.tail : Int) - (s'.head : Int))) = (s'.count : Int) - ((s'.tail : Int) - (s'.head : Int)) := by rw [IntKind.wrap_i64] <;> omega
                have n1 : ((s'.head : Int) != (s'.head : Int)) = false := bne_self_eq_false _
                have n2 : ((s'.tail : Int) != (s'.tail : Int)) = false := bne_self_eq_false _
                have n3 : ((s'.count : Int) - ((s'.tail : Int) - (s'.head : Int)) != (s'.count : Int) - ((s'.tail : Int) - (s'.head : Int))) = false := bne_self_eq_false _
                clear g1 g2 g3 g4 g5
                refine Order.beginE (fun x => Below wc.heap.size wc x) [] (by kernel_rfl) ?_
                refine Order.readsE_any (idx := [0, 2, 3]) (by kernel_rfl) (Below.refl _ _).drew (fun _ _ _ _ _ h => Order.noPanic_put h) 22 _ _ (by decide +kernel) ?_
                simp only [Order.pick, List.getElem?_toArray, List.getElem?_cons_zero, List.getElem?_cons_succ]
                repeat (first
                  | (refine Order.reads_off (by rfl) ?_
                     simp only [Act.put, List.setIfInBounds_toArray, List.set_cons_zero, List.set_cons_succ])
                  | (apply Order.reads_on
                     · rfl
                     · intro x hx
                       first
                         | (obtain ⟨d0, d1, d2, d3, d4, d5⟩ := HF.out x hx
                            exact Order.load_at rfl rfl (by assumption))
                         | (go_simp; rfl)
                         | (obtain ⟨d0, d1, d2, d3, d4, d5⟩ := HF.out x hx
                            go_simp; rfl)
                     simp only [Act.put, List.setIfInBounds_toArray, List.set_cons_zero, List.set_cons_succ]))
                refine Order.reads_end ?_
                apply Order.actE (i := 1)
                · rfl
                · decide +kernel
                · rfl
                unfold Oper.wp
                go_simp
                refine (HHd.out _ (Below.refl _ _).drew).mono ?_
                rintro e y1 ⟨rfl, hb1⟩
                subst hb1
                have hb1' : Below wc.heap.size wc wc.drew := (Below.refl wc.heap.size wc).drew
                refine ⟨hb1', ?_⟩
                refine Order.readsE_any (idx := [4, 5, 6, 8, 9]) (by kernel_rfl) hb1' (fun _ _ _ _ _ h => Order.noPanic_put h) 16 _ _ (by decide +kernel) ?_
                simp only [Order.pick, List.getElem?_toArray, List.getElem?_cons_zero, List.getElem?_cons_succ]
                repeat (first
                  | (refine Order.reads_off (by rfl) ?_
                     simp only [Act.put, List.setIfInBounds_toArray, List.set_cons_zero, List.set_cons_succ])
                  | (apply Order.reads_on
                     · rfl
                     · intro x hx
                       first
                         | (obtain ⟨d0, d1, d2, d3, d4, d5⟩ := HF.out x hx
                            exact Order.load_at rfl rfl (by assumption))
                         | (go_simp; rfl)
                         | (obtain ⟨d0, d1, d2, d3, d4, d5⟩ := HF.out x hx
                            go_simp; rfl)
                     simp only [Act.put, List.setIfInBounds_toArray, List.set_cons_zero, List.set_cons_succ]))
                refine Order.reads_end ?_
                apply Order.actE (i := 7)
                · rfl
                · decide +kernel
                · rfl
                unfold Oper.wp
                go_simp
                refine (HTl.out _ hb1').mono ?_
                rintro e y2 ⟨rfl, hb2⟩
                subst hb2
                refine ⟨hb1', ?_⟩
                refine Order.readsE_any (idx := [10, 11, 12, 13, 15, 16, 17, 18, 19, 20, 21, 22]) (by kernel_rfl) hb1' (fun _ _ _ _ _ h => Order.noPanic_put h) 3 _ _ (by decide +kernel) ?_
                simp only [Order.pick, List.getElem?_toArray, List.getElem?_cons_zero, List.getElem?_cons_succ]
                repeat (first
                  | (refine Order.reads_off (by rfl) ?_
                     simp only [Act.put, List.setIfInBounds_toArray, List.set_cons_zero, List.set_cons_succ])
                  | (apply Order.reads_on
                     · rfl
                     · intro x hx
                       first
                         | (obtain ⟨d0, d1, d2, d3, d4, d5⟩ := HF.out x hx
                            exact Order.load_at rfl rfl (by assumption))
                         | (go_simp; rfl)
                         | (obtain ⟨d0, d1, d2, d3, d4, d5⟩ := HF.out x hx
                            go_simp; rfl)
                     simp only [Act.put, List.setIfInBounds_toArray, List.set_cons_zero, List.set_cons_succ]))
                refine Order.reads_end ?_
                apply Order.actE (i := 14)
                · rfl
                · decide +kernel
                · rfl
                unfold Oper.wp
                go_simp
                refine (HRm.out _ hb1').mono ?_
                rintro e y3 ⟨rfl, hb3⟩
                have hb3' : Below wc.heap.size wc y3 := hb1'.trans (hb3.mono hb1'.size)
                refine ⟨hb3', ?_⟩
                refine Order.readsE_any (idx := [23, 24]) (by kernel_rfl) hb3' (fun _ _ _ _ _ h => Order.noPanic_put h) 0 _ _ (by decide +kernel) ?_
                simp only [Order.pick, List.getElem?_toArray, List.getElem?_cons_zero, List.getElem?_cons_succ]
                repeat (first
                  | (refine Order.reads_off (by rfl) ?_
                     simp only [Act.put, List.setIfInBounds_toArray, List.set_cons_zero, List.set_cons_succ])
                  | (apply Order.reads_on
                     · rfl
                     · intro x hx
                       first
                         | (go_simp; rfl)
                         | (fail
                            go_simp; rfl)
                     simp only [Act.put, List.setIfInBounds_toArray, List.set_cons_zero, List.set_cons_succ]))
                refine Order.reads_end ?_
                refine Order.doneE (by decide +kernel) ?_ _
                refine NoPanic.normal ?_
                have HPe := Lib.hid (HPn.out.on hb3')
                clear hb1' hb3 hb3' w1 w2 n1 n2 n3 HF HHd HTl HRm
                go_wp2_with fail
                go_roundw
                case rel => exact ⟨j + 1, p', q', t', s', F', G', kv', cv', by omega, rfl, rfl, by go_num, HPe.out⟩
                case measure => simp [intOf]; omega
        · have hnl : ¬ (j : Int) < (l.length : Int) := by omega
          clear hlt
          obtain ⟨ka, kq, hka⟩ := HP.out.pq.pl.dk.now.slice
          obtain ⟨ca, cq, hca⟩ := HP.out.pq.pl.dc.now.slice
          subst hka hca
          go_wp2_with fail
          go_loopw [234] (fun vi y => ∃ i : Nat, i ≤ 12 ∧ vi = .int .i64 (i : Int) ∧ Hid (Pp w y p q R X w.heap.size t s F G (.slice ka t.kept.length kq) (.slice ca t.cache.length cq) j)) (fun vi _ => 12 - (intOf vi).toNat)
          case atStart => exact ⟨0, by omega, rfl, HP.out⟩
          case round =>
            clear HP
            obtain ⟨i, hi, rfl, HI⟩ := hrel
            by_cases hlt2 : i < 12
            · have HRd := Lib.hid (Ta.tread_any (i : Int) HI.out.pq.pl.is (by omega) (by omega))
              have HIl := Lib.hid (show 0 ≤ (i : Int) ∧ (i : Int) < 12 by omega)
              go_wp2_with fail
              refine HRd.out.mono ?_
              rintro e y1 ⟨rfl, hx, hb⟩
              have hP1 := HI.out.on hb
              have HDr := Lib.hid (Ta.dread_any ((12 : Nat) : Int) _ _ t (i : Int) y1 hP1.pq.pl.dk.now hP1.pq.pl.dc.now)
              unfold Ta.trV at HDr
              obtain ⟨c0, c1, c2, c3, c4⟩ := hP1.pq.pl.box.cells
              have hlen := Ta.read_len HI.out.pq.pl.is (i : Int)
              have HY1 := Lib.hid (And.intro hx (And.intro hP1 (And.intro hlen hb)))
              clear hx hb hP1 hlen HRd
              go_wp2_with fail
              refine HDr.out.mono ?_
              rintro e y2 ⟨rfl, hb2⟩
              have hlen := HY1.out.2.2.1
              have hz := Ta.zero_sec
              have hs0 : (sec nul).size = 128 := rfl
              have hs8 := Ta.sec_size hlen
              have hst := Ta.store_sec y2 y2.heap.size nul (t.read nul (i : Int)) rfl rfl hlen
              obtain ⟨Y3, hY3⟩ : ∃ Y3, Y3 = y2.alloc (.cells (sec (t.read nul (i : Int))) tSec) := ⟨_, rfl⟩
              have hb3 : Below y2.heap.size y2 Y3 := by rw [hY3]; exact (Below.refl _ _).alloc (Nat.le_refl _) _
              have hn3 : Y3.heap[y2.heap.size]? = some (.cells (sec (t.read nul (i : Int))) tSec (0, 0)) := by rw [hY3]; exact heap_alloc_new y2 _
              have hb13 := hb2.trans (hb3.mono hb2.size)
              have HY3 := Lib.hid (And.intro ((hb13.block _ (Array.getElem?_eq_some_iff.1 HY1.out.1).1).trans HY1.out.1) (And.intro hn3 (HY1.out.2.1.on hb13)))
              clear hb2 hb3 hn3 hb13 hlen c0 c1 c2 c3 c4 HDr
              go_upto_region 51 with fail
              rw [← hY3]
              clear hY3 hz hs0 hs8 hst
              generalize y2.heap.size = D2 at *
              obtain ⟨B2, hB2⟩ : ∃ B2, B2 = wr.heap.size := ⟨_, rfl⟩
              rw [← hB2] at HY3 ⊢
              clear hB2
              obtain ⟨rd, hrd⟩ : ∃ rd, rd = t.read nul (i : Int) := ⟨_, rfl⟩
              rw [← hrd] at HY3 HY1
              have hs1 : ∀ m, (convert 22 9 (.slice (some ⟨B2, 0, none⟩) 128 128)).run Try.prog (Y3.drewN m) = .ok (.string (Ta.str rd)) (Y3.drewN m) := fun m => Ta.sec_str (x := Y3.drewN m) HY3.out.1 HY1.out.2.2.1
              have hs2 : ∀ m, (convert 22 9 (.slice (some ⟨D2, 0, none⟩) 128 128)).run Try.prog (Y3.drewN m) = .ok (.string (Ta.str rd)) (Y3.drewN m) := fun m => Ta.sec_str (x := Y3.drewN m) HY3.out.2.1 HY1.out.2.2.1
              clear hrd
              generalize Ta.str rd = S at *
              go_quiet (fail)
              clear hs1 hs2
              have HFin := Lib.hid (HY3.out.2.2.on (below_drewN (Below.refl _ _) nq))
              go_wp2_with fail
              go_roundw
              case rel => exact ⟨i + 1, by omega, by go_num, HFin.out⟩
              case measure => simp [intOf]; omega
            · have hne2 : ¬ (i : Int) < 12 := by omega
              have HE := Lib.hid HI.out.pq.pl.below
              clear hlt2
              go_wp2_with fail
              go_ret
              exact ⟨rfl, HE.out⟩
    · have hfi : -9223372036854775808 ≤ fi ∧ fi ≤ 9223372036854775807 := by
        have := HWf.out.1
        simp [Lit.wf, IntKind.min, IntKind.max, IntKind.signed, IntKind.bits] at this
        omega
      have hco : -9223372036854775808 ≤ co ∧ co ≤ 9223372036854775807 := by
        have := HWf.out.2
        simp [Lit.wf, IntKind.min, IntKind.max, IntKind.signed, IntKind.bits] at this
        omega
      have HO := Lib.hid (open_bad hfi hco H4.out.1.is ho)
      clear hfi hco
      go_wp2_with fail
      refine HO.out.mono ?_
      rintro e x5 ⟨rfl, hb5⟩
      have hbR := H4.out.1.box.on hb5
      obtain ⟨c0, c1, c2, c3, c4⟩ := hbR.cells
      have hring := (hb5.block _ (Array.getElem?_eq_some_iff.1 H4.out.2).1).trans H4.out.2
      obtain ⟨r0', r1'⟩ : x5.cell? ⟨w.heap.size, 0, none⟩ = some (.int .i64 fi) ∧ x5.cell? ⟨w.heap.size, 1, none⟩ = some (.int .i64 co) := by
        constructor <;> (rw [Lib.cell_of_heap hring]; rfl)
      have HDo := Lib.hid (dopen_bad 12 (.slice none 0 0) (.slice none 0 0) Tray.fresh fi co hd ep x5 ⟨_, _, _, rfl⟩ ⟨_, _, _, rfl⟩ ho (by omega))
      unfold Ta.trV at HDo
      have H5 := Lib.hid (H4.out.1.below.trans (hb5.mono H4.out.1.below.size))
      clear hb5 hbR HO ho hring r0 r1
      rw [show (Tray.fresh : Tray (List UInt8)).left = -1 from rfl] at HDo c3
      rw [show (Tray.fresh : Tray (List UInt8)).dark = false from rfl] at HDo c4
      go_wp2_with fail
      refine HDo.out.mono ?_
      rintro e x6 ⟨rfl, hb6⟩
      obtain ⟨X, hX⟩ : ∃ X, X = x6.alloc (.cells (dsC zS) tDS) := ⟨_, rfl⟩
      have hal : Below x6.heap.size x6 X := by rw [hX]; exact (Below.refl _ _).alloc (Nat.le_refl _) _
      have hb5 : Below x5.heap.size x5 X := hb6.trans (hal.mono hb6.size)
      have HX6 := Lib.hid (H5.out.trans (hb5.mono H5.out.size))
      clear c0 c1 c2 c3 c4 hb6 hal hb5 H5 HDo r0' r1'
      unfold dsC
      go_upto_region 8 with fail
      change Code.wp _ _ _ _ (x6.alloc (.cells (dsC zS) tDS))
      rw [← hX]
      clear hX
      have HSm := Lib.hid (same_any (w := X) _ _ [] [] (recs_none X) (recs_none X))
      rw [decide_eq_true (rfl : ([] : List (List UInt8)) = [])] at HSm
      have h11 : ((1 : Int) != 1) = false := rfl
      have h10 : ((1 : Int) != 0) = true := rfl
      have h1e : ((1 : Int) == 0) = false := rfl
      go_wp2_with fail
      refine HSm.out.mono ?_
      rintro e y1 ⟨rfl, hb1⟩
      have HE := Lib.hid (HX6.out.trans (hb1.mono HX6.out.size))
      clear hb1
      go_wp2_with fail
      go_ret
      exact ⟨rfl, HE.out⟩
  · rw [decide_eq_false hfew]
    clear hfew
    go_wp2_with fail
    refine (awake_any x4).mono ?_
    rintro e x5 ⟨rfl, hb⟩
    have H5 := Lib.hid (H4.out.1.below.trans (hb.mono H4.out.1.below.size))
    clear hb
    go_wp2_with fail
    go_ret
    exact ⟨rfl, H5.out⟩
end LawS13Plays
end Sp
end Go.Proofs.Ytkfmmdiflbnhgaa
