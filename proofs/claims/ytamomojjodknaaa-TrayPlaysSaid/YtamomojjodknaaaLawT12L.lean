/-
  TrayPlays, walked: of any calls each answers as the document says; so do all sectors that were named.
-/
import Derived.Test.YtamomojjodknaaaTaPlay
import Derived.Deep.CutBlock
namespace Go.Proofs.Ytamomojjodknaaa
open Go.RowKit
namespace Ta
open Knot (Turns NewRow)
open Tr (IsElem append_rows walk_rows own_turn own_below own_slice own_open addp)
namespace LawT12L
set_option maxHeartbeats 32000000 in
set_option maxRecDepth 100000 in
theorem walk (z : Int) (l : List Act) (v : Value) (w : World) (_hz : (Lit.int .i64 z).wf = true) (hv : IsActs w v l) :
    Calls Try.prog 3 #[.int .i64 z, v] w fun e x => e = .returned (.bool true) ∧ Below w.heap.size w x := by
  have HV := Lib.hid hv
  obtain ⟨ao, cap, rfl, hlen⟩ := acts_len hv
  clear hv
  go_enter Try.func3, Try.ntmps3
  go_wp2_with fail
  refine (awake_any w).mono ?_
  rintro e x1 ⟨rfl, hb⟩
  have H1 := Lib.hid hb
  clear hb
  by_cases h60 : 60 < l.length
  · have e60 : ((60 : Int) < (l.length : Int)) := by omega
    go_wp2_with fail
    refine (awake_any x1).mono ?_
    rintro e x3 ⟨rfl, hb⟩
    have H3 := Lib.hid (H1.out.trans (hb.mono H1.out.size))
    clear hb
    go_wp2_with fail
    go_ret
    exact ⟨rfl, H3.out⟩
  · have e60 : ¬ ((60 : Int) < (l.length : Int)) := by omega
    by_cases hn : 4 ≤ z ∧ z ≤ 4096
    · obtain ⟨n, rfl⟩ : ∃ n : Nat, z = (n : Int) := ⟨z.toNat, by omega⟩
      have hn' : 4 ≤ n ∧ n ≤ 4096 := by omega
      have HN := Lib.hid (new_any n hn' x1)
      clear hn
      go_wp2_with fail
      refine HN.out.mono ?_
      rintro e x2 ⟨p, rfl, hb, hi⟩
      have H2 := Lib.hid (And.intro hb hi)
      have HD := Lib.hid (rnew_any (n : Int) true (by simp; omega) x2)
      clear hb hi HN
      unfold trV at HD
      go_wp2_with fail
      refine HD.out.mono ?_
      rintro e x3 ⟨rfl, hb3⟩
      obtain ⟨y, hY⟩ : ∃ y, y = x3.alloc (.cells #[.int .i64 (n : Int), .slice none 0 0, .slice none 0 0, .int .i64 (-1), .bool false] tTr) := ⟨_, rfl⟩
      have HY := Lib.hid (show Pl w y p x3.heap.size n Tray.fresh (Made x1 x2) (Made x1 x2) (.slice none 0 0) (.slice none 0 0) 0 from by
        have hal : Below x3.heap.size x3 y := by rw [hY]; exact (Below.refl _ _).alloc (Nat.le_refl _) _
        have hz1 := H1.out.size
        have hz2 := H2.out.1.size
        have hz3 := hb3.size
        have hz4 := hal.size
        have hb23 := hb3.trans (hal.mono hz3)
        refine ⟨((H1.out.trans (H2.out.1.mono hz1)).trans (hb23.mono (by omega))), H2.out.2.below hb23, fun _ h => h, fun k hk => by have := hk.2; omega, fun k hk => by have := hk.1; omega, Nat.le_refl _, ?_, ⟨by omega, fun hk => by have := hk.2; omega⟩, stay_nil _ _, stay_nil _ _⟩
        rw [hY]
        exact heap_alloc_new x3 _)
      clear hb3 HD H1 H2
      go_upto_region 5 with fail
      rw [← hY]
      generalize x3.heap.size = R at *
      clear hY
      go_wp2_with fail
      go_loopw [5, 60] (fun vt vi y => ∃ (j p : Nat) (t : Tray (List UInt8)) (F G : Nat → Prop) (kv cv : Value), j ≤ l.length ∧ vi = .int .i64 (j : Int) ∧ vt = ptr p ∧ Hid (Pl w y p R n t F G kv cv j)) (fun _ vi _ => l.length - (intOf vi).toNat)
      case atStart => exact ⟨0, p, Tray.fresh, _, _, _, _, by omega, rfl, rfl, HY.out⟩
      case round =>
        clear HY
        obtain ⟨j, p, t, F, G, kv, cv, hj, rfl, rfl, HP⟩ := hrel
        have hj60 : j ≤ 60 := by omega
        by_cases hlt : j < l.length
        · obtain ⟨g, q, hix, ob, oc, cb, cc, a0, a1, a2, a3, hbs, hfs⟩ := act_at HV.out HP.out.below hlt
          generalize l[j] = ac at *
          obtain ⟨kd, at_, bb, fc⟩ := ac
          simp only at a0 a1 a2 a3 hbs hfs
          obtain ⟨X, hX⟩ : ∃ X, X = wr.alloc (.cells #[.int .i64 kd, .int .i64 at_, .slice ob bb.length cb, .slice oc fc.length cc] tAc) := ⟨_, rfl⟩
          have hbx : Below wr.heap.size wr X := by rw [hX]; exact (Below.refl _ _).alloc (Nat.le_refl _) _
          have hbox : X.heap[wr.heap.size]? = some (.cells #[.int .i64 kd, .int .i64 at_, .slice ob bb.length cb, .slice oc fc.length cc] tAc (0, 0)) := by rw [hX]; exact heap_alloc_new wr _
          have HX := Lib.hid (And.intro (HP.out.on hbx) (And.intro hbox (And.intro hbs (And.intro hfs (show ∀ k, (G k ∨ k = R) → k ≠ wr.heap.size from fun k hk e => by
            rcases hk with hk | hk
            · have := HP.out.low k hk; omega
            · have := HP.out.box.lt; omega)))))
          clear hbx hbox hbs hfs
          go_upto_region 12 with fail
          rw [← hX]
          clear hX a0 a1 a2 a3 hix
          generalize wr.heap.size = A at *
          obtain ⟨q0, q1, q2, q3⟩ : X.cell? ⟨A, 0, none⟩ = some (.int .i64 kd) ∧ X.cell? ⟨A, 1, none⟩ = some (.int .i64 at_) ∧ X.cell? ⟨A, 2, none⟩ = some (.slice ob bb.length cb) ∧ X.cell? ⟨A, 3, none⟩ = some (.slice oc fc.length cc) := by
            refine ⟨?_, ?_, ?_, ?_⟩ <;> (rw [Lib.cell_of_heap HX.out.2.1]; rfl)
          by_cases hsz : 200 < bb.length
          · have e1 : (200 : Int) < (bb.length : Int) := by omega
            clear hsz
            go_wp2_with fail
            go_roundw
            case rel => exact ⟨j + 1, p, t, F, G, kv, cv, by omega, by go_num, rfl, HX.out.1.more (Nat.le_succ j)⟩
            case measure => simp [intOf]; omega
          · by_cases hsz2 : 200 < fc.length
            · have e1 : ¬ (200 : Int) < (bb.length : Int) := by omega
              have e2 : (200 : Int) < (fc.length : Int) := by omega
              clear hsz hsz2
              go_wp2_with fail
              go_roundw
              case rel => exact ⟨j + 1, p, t, F, G, kv, cv, by omega, by go_num, rfl, HX.out.1.more (Nat.le_succ j)⟩
              case measure => simp [intOf]; omega
            · have e1 : ¬ (200 : Int) < (bb.length : Int) := by omega
              have e2 : ¬ (200 : Int) < (fc.length : Int) := by omega
              have hb200 : bb.length ≤ 200 := by omega
              have HL := Lib.hid (show t.kept.length + t.cache.length ≤ 60 ∧ bb.length ≤ 200 from ⟨Nat.le_trans HX.out.1.few hj60, hb200⟩)
              clear hsz hsz2 hb200
              go_upto_block 2 with fail
              clear e1 e2
              go_cut [5, 11, 12] (fun s5 s11 s12 wx => ∃ (p' : Nat) (t' : Tray (List UInt8)) (F' G' : Nat → Prop) (kv' cv' : Value) (c : Int), s5 = ptr p' ∧ s11 = .int .i64 c ∧ s12 = .int .i64 c ∧ Hid (Pl w wx p' R n t' F' G' kv' cv' (j + 1)))
              case first =>
                by_cases hk1 : kd = 1
                · have ek1 : (kd == 1) = true := by simp [hk1]
                  clear hk1
                  have hnl := HL.out
                  have HEr := Lib.hid (empty_brow X)
                  have HBz := Lib.hid (show Below X.heap.size X (X.alloc (.cells #[] tBy)) from (Below.refl _ _).alloc (Nat.le_refl _) _)
                  have HBt := Lib.hid (show IsBytes (X.alloc (.cells #[] tBy)) (.slice ob bb.length cb) bb from HX.out.2.2.1.below (HX.out.1.below.trans (HBz.out.mono HX.out.1.below.size)))
                  have qz2 := (HBz.out.cell (p := ⟨A, 2, none⟩) (Array.getElem?_eq_some_iff.1 HX.out.2.1).1).trans q2
                  clear hnl
                  go_wp2_with (at_builtin; refine walk_by rfl _ _ rfl rfl rfl HEr.out HBz.out.size HBt.out (by have := HL.out; omega) ?_)
                  intro ow z o5 g5 n5
                  have hbz : Below X.heap.size X z := HBz.out.grown g5 HBz.out.size fun k hk => (HEr.out.lt k hk).1
                  have hsl := own_slice o5
                  have HOw := Lib.hid (And.intro o5 hbz)
                  have HW := Lib.hid (write_any at_ ow bb (HX.out.1.is.below hbz) (own_bytes o5 fun k hk => HX.out.1.is.low k hk) (by have := HL.out; omega))
                  obtain ⟨oa, op, rfl⟩ := hsl
                  have r1 : z.cell? ⟨A, 1, none⟩ = some (.int .i64 at_) := (hbz.cell (p := ⟨A, 1, none⟩) (Array.getElem?_eq_some_iff.1 HX.out.2.1).1).trans q1
                  clear o5 g5 n5 hbz HEr HBz HBt qz2
                  generalize hwt : t.write n at_ bb = wt at *
                  obtain ⟨t1, cd⟩ := wt
                  have HWt := Lib.hid hwt
                  clear hwt
                  simp only at HW
                  go_wp2_with fail
                  refine HW.out.mono ?_
                  rintro e z1 ⟨rfl, ht1, hi⟩
                  have htX : Turns F X z1 := Turns.after_below HOw.out.2 ht1
                  have hD := HX.out.1.doc (HX.out.1.turns htX)
                  have HDf := Lib.hid (dput_any _ n _ t at_ (.slice ob bb.length cb) bb z1 hD.2 hD.1 (HX.out.2.2.1.below (HX.out.1.below.trans (htX.below HX.out.1.below.size fun k hk => HX.out.1.new k (HX.out.1.sub k hk)))) HX.out.1.is.left (by have := HL.out; omega))
                  rw [HWt.out] at HDf
                  simp only at HDf
                  unfold trV at HDf
                  have hbR := HX.out.1.box.turn htX fun hf => HX.out.1.off.2 (HX.out.1.sub _ hf)
                  have HZ1 := Lib.hid (And.intro ht1 (And.intro hi (And.intro hbR htX)))
                  obtain ⟨c0, c1, c2, c3, c4⟩ := hbR.cells
                  have hAF : ¬ F A := fun hf => HX.out.2.2.2.2 _ (.inl (HX.out.1.sub _ hf)) rfl
                  have s1 : z1.cell? ⟨A, 1, none⟩ = some (.int .i64 at_) := (htX.cell (p := ⟨A, 1, none⟩) (Array.getElem?_eq_some_iff.1 HX.out.2.1).1 hAF).trans q1
                  have s2 : z1.cell? ⟨A, 2, none⟩ = some (.slice ob bb.length cb) := (htX.cell (p := ⟨A, 2, none⟩) (Array.getElem?_eq_some_iff.1 HX.out.2.1).1 hAF).trans q2
                  obtain ⟨ka, kq, hka⟩ := HX.out.1.dk.now.slice
                  obtain ⟨ca, cq, hca⟩ := HX.out.1.dc.now.slice
                  subst hka hca
                  clear ht1 hi hD hbR HW q0 q1 q2 q3 r1 htX hAF
                  go_wp2_with fail
                  refine HDf.out.mono ?_
                  rintro e z2 ⟨v', rfl, ⟨kv', cv', rfl, hk', hc'⟩, hb⟩
                  have hfew : t1.kept.length + t1.cache.length ≤ j + 1 := by
                    have e1 : t1 = (t.write n at_ bb).1 := by rw [HWt.out]
                    have := HX.out.1.few
                    have h2 := write_few (n := n) t at_ bb
                    have h3 : (t.write n at_ bb).1.kept = t.kept := by
                      unfold Tray.write
                      split
                      · rfl
                      · split
                        · rfl
                        · unfold Tray.put
                          split <;> rfl
                    rw [e1, h3]
                    omega
                  have hst := HX.out.1.step (HX.out.1.turns HZ1.out.2.2.2) HZ1.out.2.1 (fun k hk => hk.elim .inl fun hk => .inr (Nat.le_trans HOw.out.2.size hk.1)) hb hk' hc' hfew
                  have hrow := own_turn (own_below (own_turn HOw.out.1 HZ1.out.1 fun k hk hf => by have := (HOw.out.1.lt k hk).1; have := HX.out.1.is.low k hf; omega) hb) (st5_turns z2 R (.int .i64 n) kv' cv' (.int .i64 t1.left) (.bool t1.dark)) fun k hk e => by have := (HOw.out.1.lt k hk).1; have := HX.out.1.box.lt; omega
                  have hgo : ∀ k, (Value.slice oa bb.length op).ownBlock = some k → Grow G X z1 k ∧ ¬ Grow F z z1 k := fun k hk => by
                    have hlt := HOw.out.1.lt k hk
                    have hz := HZ1.out.1.size
                    refine ⟨.inr ⟨hlt.1, by omega⟩, fun hf => ?_⟩
                    rcases hf with hf | hf
                    · have := HX.out.1.is.low k hf; omega
                    · omega
                  have HFin := Lib.hid (And.intro hst (And.intro hrow hgo))
                  clear hst hrow hgo s1 s2
                  obtain ⟨k1, k2, hkv⟩ := hk'.now.slice
                  obtain ⟨k3, k4, hcv⟩ := hc'.now.slice
                  subst hkv hcv
                  have hb2R := HZ1.out.2.2.1.on hb
                  obtain ⟨c0, c1, c2, c3, c4⟩ := hb2R.cells
                  obtain ⟨f0, f1, f2, f3, f4⟩ := hb2R.free
                  clear hk' hc' hb hb2R hfew
                  unfold trV
                  go_upto_region 19 with fail
                  clear c0 c1 c2 c3 c4 f0 f1 f2 f3 f4 HDf
                  change Code.wp _ _ _ _ (st5 z2 R (.int .i64 (n : Int)) (.slice k1 t1.kept.length k2) (.slice k3 t1.cache.length k4) (.int .i64 t1.left) (.bool t1.dark))
                  generalize st5 z2 R (.int .i64 (n : Int)) (.slice k1 t1.kept.length k2) (.slice k3 t1.cache.length k4) (.int .i64 t1.left) (.bool t1.dark) = Z3 at *
                  go_wp2_with fail
                  go_loopw [98] (fun vi y => ∃ i : Nat, i ≤ bb.length ∧ vi = .int .i64 (i : Int) ∧ Hid (Pl w y p R n t1 (Grow F z z1) (Grow G X z1) (.slice k1 t1.kept.length k2) (.slice k3 t1.cache.length k4) (j + 1) ∧ ∃ xs, y.ownsRow X.heap.size tBy 1 (.slice oa bb.length op) bb.length xs ∧ ∀ u ∈ xs, ∃ q, u = .int .u8 q)) (fun vi _ => bb.length - (intOf vi).toNat)
                  case atStart =>
                    refine ⟨0, by omega, rfl, ⟨HFin.out.1, _, HFin.out.2.1, fun u hu => ?_⟩⟩
                    simp only [Lib.byteCells, List.mem_map] at hu
                    obtain ⟨q, -, rfl⟩ := hu
                    exact ⟨_, rfl⟩
                  case round =>
                    obtain ⟨i, hi, rfl, HI⟩ := hrel
                    have hb2 := HL.out.2
                    by_cases hlt : i < bb.length
                    · obtain ⟨hpl, xs, hrow, hxs⟩ := HI.out
                      obtain ⟨m, hm⟩ : ∃ m, bb.length = m + 1 := ⟨bb.length - 1, by omega⟩
                      have hrow' := hrow
                      rw [hm] at hrow'
                      obtain ⟨gO, oc2, hv, -, -, -, -⟩ := own_open hrow'
                      obtain ⟨rfl, -, rfl⟩ := Value.slice.inj hv
                      have hgo := HFin.out.2.2 gO rfl
                      have hl := hrow.1
                      have hix : ∀ W, (Instr.indexAt tBs (.slice (some ⟨gO, 0, none⟩) bb.length op) (.int .i64 (i : Int))).run Try.prog W = .ok (.pointer (some ⟨gO, i, none⟩)) W := fun W => by
                        have hz : ∀ w, (sizeOf (Try.prog.elem tBs)).run Try.prog w = .ok 1 w := fun w => by kernel_rfl
                        rw [run_indexAt_slice W _ _ _ _ _ _ Try.underlying33, if_pos ⟨by omega, by omega⟩, hz]
                        have e : ((i : Int)).toNat = i := by omega
                        simp only [Result.andThen_ok, e, Addr.add_lit, Nat.mul_one, Nat.zero_add]
                      obtain ⟨qq, hqq⟩ := hxs (xs[i]'(by omega)) (List.getElem_mem _)
                      have hcell : wr.cell? ⟨gO, i, none⟩ = some (.int .u8 qq) := by rw [hrow.cellAt i (by omega), List.getElem?_eq_getElem (by omega), hqq]
                      have hfr : wr.frozen? ⟨gO, i, none⟩ = false := hrow.frozenAt i
                      have HNx := Lib.hid (show ∀ u : Int, Pl w (wr.setCell ⟨gO, i, none⟩ (.int .u8 u)) p R n t1 (Grow F z z1) (Grow G X z1) (.slice k1 t1.kept.length k2) (.slice k3 t1.cache.length k4) (j + 1) ∧ ∃ xs, (wr.setCell ⟨gO, i, none⟩ (.int .u8 u)).ownsRow X.heap.size tBy 1 (.slice (some ⟨gO, 0, none⟩) bb.length op) bb.length xs ∧ ∀ u ∈ xs, ∃ q, u = .int .u8 q from fun u => by
                        obtain ⟨o1, g1⟩ := hrow.stored i (.int .u8 u)
                        refine ⟨hpl.scratch hgo.1 hgo.2 (Turns.of_grown g1 fun k hk => (Option.some.inj hk).symm), _, o1, fun x hx => ?_⟩
                        rcases List.mem_or_eq_of_mem_set hx with hx | rfl
                        · exact hxs x hx
                        · exact ⟨_, rfl⟩)
                      clear hpl hrow hrow' hxs hgo hl hv hm hqq
                      go_wp2_with fail
                      go_roundw
                      case rel => exact ⟨i + 1, by omega, by go_num, HNx.out _⟩
                      case measure => simp [intOf]; omega
                    · have hne : ¬ (i : Int) < (bb.length : Int) := by omega
                      clear hlt
                      go_wp2_with fail
                      go_meet
                      case rel => exact ⟨p, t1, Grow F z z1, Grow G X z1, _, _, cd, rfl, rfl, rfl, HI.out.1⟩
                · have ek1 : (kd == 1) = false := by simp [hk1]
                  by_cases hk2 : kd = 2
                  · have ek2 : (kd == 2) = true := by simp [hk2]
                    clear hk1 hk2
                    obtain ⟨cd, hcd⟩ : ∃ cd : Int, cd = (if t.left = 0 then 20 else 0) := ⟨_, rfl⟩
                    have HFl := Lib.hid (flush_any HX.out.1.is (by have := HL.out; omega))
                    rw [← hcd] at HFl
                    have HCd := Lib.hid hcd
                    clear hcd
                    go_wp2_with fail
                    refine HFl.out.mono ?_
                    rintro e z1 ⟨rfl, ht, hi⟩
                    have hD := HX.out.1.doc (HX.out.1.turns ht)
                    have HDf := Lib.hid (dflush_any _ n _ t z1 hD.2 hD.1 HX.out.1.is.left (by have := HL.out; omega))
                    rw [← HCd.out] at HDf
                    unfold trV at HDf
                    have hbR := HX.out.1.box.turn ht fun hf => HX.out.1.off.2 (HX.out.1.sub _ hf)
                    have HZ1 := Lib.hid (And.intro ht (And.intro hi hbR))
                    obtain ⟨c0, c1, c2, c3, c4⟩ := hbR.cells
                    obtain ⟨ka, kq, hka⟩ := HX.out.1.dk.now.slice
                    obtain ⟨ca, cq, hca⟩ := HX.out.1.dc.now.slice
                    subst hka hca
                    clear ht hi hD hbR HFl q0 q1 q2 q3
                    go_wp2_with fail
                    refine HDf.out.mono ?_
                    rintro e z2 ⟨v', rfl, ⟨kv', cv', rfl, hk', hc'⟩, hb⟩
                    have hfew : t.flush.kept.length + t.flush.cache.length ≤ j + 1 := by
                      have h1 : t.flush.kept.length + t.flush.cache.length = t.kept.length + t.cache.length := by
                        unfold Tray.flush
                        split
                        · rfl
                        · show (t.kept ++ t.cache).length + 0 = _
                          rw [List.length_append]; omega
                      have := HX.out.1.few
                      omega
                    have HFin := Lib.hid (HX.out.1.step (HX.out.1.turns HZ1.out.1) HZ1.out.2.1 (fun _ hk => .inl hk) hb hk' hc' hfew)
                    obtain ⟨k1, k2, hkv⟩ := hk'.now.slice
                    obtain ⟨k3, k4, hcv⟩ := hc'.now.slice
                    subst hkv hcv
                    have hb2R := HZ1.out.2.2.on hb
                    obtain ⟨c0, c1, c2, c3, c4⟩ := hb2R.cells
                    obtain ⟨f0, f1, f2, f3, f4⟩ := hb2R.free
                    clear hk' hc' hb hb2R hfew
                    unfold trV
                    go_wp2_with fail
                    go_meet
                    case rel => exact ⟨p, t.flush, F, Grow G X z1, _, _, _, rfl, rfl, rfl, HFin.out⟩
                  · have ek2 : (kd == 2) = false := by simp [hk2]
                    by_cases hk3 : kd = 3
                    · have ek3 : (kd == 3) = true := by simp [hk3]
                      clear hk1 hk2 hk3
                      obtain ⟨cd, hcd⟩ : ∃ cd : Int, cd = (if 0 ≤ at_ ∧ at_ ≤ 1099511627776 then 0 else 1) := ⟨_, rfl⟩
                      obtain ⟨t3, ht3⟩ : ∃ t3 : Tray (List UInt8), t3 = (if 0 ≤ at_ ∧ at_ ≤ 1099511627776 then t.power at_ else t) := ⟨_, rfl⟩
                      have HPw := Lib.hid (power_any at_ HX.out.1.is)
                      rw [← hcd, ← ht3] at HPw
                      have HCd := Lib.hid (And.intro hcd ht3)
                      clear hcd ht3
                      go_wp2_with fail
                      refine HPw.out.mono ?_
                      rintro e z1 ⟨rfl, ht0, hi⟩
                      have ht : Turns F X z1 := ht0.mono fun _ _ e => by rw [e]; exact HX.out.1.is.fp
                      have hD := HX.out.1.doc (HX.out.1.turns ht)
                      have HDf := Lib.hid (dpower_any _ n _ t at_ z1 hD.1)
                      rw [← HCd.out.1, ← HCd.out.2] at HDf
                      unfold trV at HDf
                      have hbR := HX.out.1.box.turn ht fun hf => HX.out.1.off.2 (HX.out.1.sub _ hf)
                      have HZ1 := Lib.hid (And.intro ht (And.intro hi hbR))
                      obtain ⟨c0, c1, c2, c3, c4⟩ := hbR.cells
                      have r1 : z1.cell? ⟨A, 1, none⟩ = some (.int .i64 at_) := (ht.cell (p := ⟨A, 1, none⟩) (Array.getElem?_eq_some_iff.1 HX.out.2.1).1 fun hf => HX.out.2.2.2.2 _ (.inl (HX.out.1.sub _ hf)) rfl).trans q1
                      obtain ⟨ka, kq, hka⟩ := HX.out.1.dk.now.slice
                      obtain ⟨ca, cq, hca⟩ := HX.out.1.dc.now.slice
                      subst hka hca
                      clear ht hi hD hbR HPw q0 q1 q2 q3 ht0
                      go_wp2_with fail
                      refine HDf.out.mono ?_
                      rintro e z2 ⟨v', rfl, ⟨kv', cv', rfl, hk', hc'⟩, hb⟩
                      have hfew : t3.kept.length + t3.cache.length ≤ j + 1 := by
                        have := HX.out.1.few
                        rw [HCd.out.2]
                        split
                        · show t.kept.length + t.cache.length ≤ _
                          omega
                        · omega
                      have HFin := Lib.hid (HX.out.1.step (HX.out.1.turns HZ1.out.1) HZ1.out.2.1 (fun _ hk => .inl hk) hb hk' hc' hfew)
                      clear r1
                      obtain ⟨k1, k2, hkv⟩ := hk'.now.slice
                      obtain ⟨k3, k4, hcv⟩ := hc'.now.slice
                      subst hkv hcv
                      have hb2R := HZ1.out.2.2.on hb
                      obtain ⟨c0, c1, c2, c3, c4⟩ := hb2R.cells
                      obtain ⟨f0, f1, f2, f3, f4⟩ := hb2R.free
                      clear hk' hc' hb hb2R hfew
                      unfold trV
                      go_wp2_with fail
                      go_meet
                      case rel => exact ⟨p, t3, F, Grow G X z1, _, _, _, rfl, rfl, rfl, HFin.out⟩
                    · have ek3 : (kd == 3) = false := by simp [hk3]
                      by_cases hk4 : kd = 4
                      · have ek4 : (kd == 4) = true := by simp [hk4]
                        clear hk1 hk2 hk3 hk4
                        have hdr : Below X.heap.size X X.drew := (Below.refl _ _).drew
                        have HXd := Lib.hid (HX.out.1.on hdr)
                        have hfw := HX.out.2.2.2.1.below HXd.out.below
                        have HLs := Lib.hid (lose_any HXd.out.is (.slice oc fc.length cc) fc hfw (by have := HL.out; omega))
                        obtain ⟨ka, kq, hka⟩ := HX.out.1.dk.now.slice
                        obtain ⟨ca, cq, hca⟩ := HX.out.1.dc.now.slice
                        subst hka hca
                        have HF := Lib.hid (show ∀ x, Below X.heap.size X x → x.cell? ⟨A, 3, none⟩ = some (.slice oc fc.length cc) ∧ x.cell? ⟨R, 0, none⟩ = some (.int .i64 (n : Int)) ∧ x.cell? ⟨R, 1, none⟩ = some (.slice ka t.kept.length kq) ∧ x.cell? ⟨R, 2, none⟩ = some (.slice ca t.cache.length cq) ∧ x.cell? ⟨R, 3, none⟩ = some (.int .i64 t.left) ∧ x.cell? ⟨R, 4, none⟩ = some (.bool t.dark) from fun x hx =>
                          ⟨(hx.cell (p := ⟨A, 3, none⟩) (Array.getElem?_eq_some_iff.1 HX.out.2.1).1).trans q3, (HX.out.1.box.on hx).cells⟩)
                        clear hdr hfw q0 q1 q2 q3
                        go_wp2_with fail
                        refine Order.beginE (fun x => Below X.heap.size X x) [9] (by kernel_rfl) ?_
                        refine Order.readsE_any (idx := [0, 1, 2, 4, 5, 6]) (by kernel_rfl) (Below.refl _ _).drew (fun _ _ _ _ _ h => Order.noPanic_put h) 4 _ _ (by decide +kernel) ?_
                        simp only [Order.pick, List.getElem?_toArray, List.getElem?_cons_zero, List.getElem?_cons_succ]
                        repeat (first
                          | (refine Order.reads_off (by rfl) ?_
                             simp only [Act.put, List.setIfInBounds_toArray, List.set_cons_zero, List.set_cons_succ])
                          | (apply Order.reads_on
                             · rfl
                             · intro x hx
                               first
                                 | (obtain ⟨h0, h1, h2, h3, h4, h5⟩ := HF.out x hx
                                    exact Order.load_at rfl rfl (by assumption))
                                 | (go_simp; rfl)
                                 | (obtain ⟨h0, h1, h2, h3, h4, h5⟩ := HF.out x hx
                                    go_simp; rfl)
                             simp only [Act.put, List.setIfInBounds_toArray, List.set_cons_zero, List.set_cons_succ]))
                        refine Order.reads_end ?_
                        apply Order.actE (i := 3)
                        · rfl
                        · decide +kernel
                        · rfl
                        unfold Oper.wp
                        go_simp
                        refine Calls.mono HLs.out ?_
                        rintro e z1 ⟨p', rfl, -, hb1, hi1⟩
                        have hb01 : Below X.heap.size X z1 := (Below.refl X.heap.size X).drew.trans hb1
                        refine ⟨hb01, ?_⟩
                        have hD := HXd.out.doc (Turns.of_below hb1)
                        have HDf := Lib.hid (dlose_any _ n _ t (.slice oc fc.length cc) fc z1 hD.2 hD.1 (HX.out.2.2.2.1.below (HX.out.1.below.trans (hb01.mono HX.out.1.below.size))) (by have := HL.out; omega))
                        unfold trV at HDf
                        have HZ1 := Lib.hid (And.intro hb1 (And.intro hi1 hb01))
                        clear hb1 hi1 hD HLs hb01
                        apply Order.actE (i := 7)
                        · rfl
                        · decide +kernel
                        · rfl
                        unfold Oper.wp
                        go_simp
                        refine Calls.mono HDf.out ?_
                        rintro e z2 ⟨v', rfl, ⟨kv', cv', rfl, hk', hc'⟩, hb⟩
                        have hb02 : Below X.heap.size X z2 := HZ1.out.2.2.trans (hb.mono HZ1.out.2.2.size)
                        refine ⟨hb02, ?_⟩
                        have hfew : (t.lose fc).kept.length + (t.lose fc).cache.length ≤ j + 1 := by
                          have := HX.out.1.few
                          have := pick_length t.cache fc
                          show (t.kept ++ pick t.cache fc).length + 0 ≤ _
                          rw [List.length_append]
                          omega
                        have HFin := Lib.hid (HXd.out.step (Turns.of_below HZ1.out.1) HZ1.out.2.1 (fun _ hk => .inr hk.1) hb hk' hc' hfew)
                        obtain ⟨k1, k2, hkv⟩ := hk'.now.slice
                        obtain ⟨k3, k4, hcv⟩ := hc'.now.slice
                        subst hkv hcv
                        have hb2R := HX.out.1.box.on hb02
                        obtain ⟨c0, c1, c2, c3, c4⟩ := hb2R.cells
                        obtain ⟨f0, f1, f2, f3, f4⟩ := hb2R.free
                        have HB2 := Lib.hid hb02
                        clear hk' hc' hb hb2R hfew hb02
                        unfold trV
                        refine Order.readsE_any (idx := [8]) (by kernel_rfl) HB2.out (fun _ _ _ _ _ h => Order.noPanic_put h) 1 _ _ (by decide +kernel) ?_
                        simp only [Order.pick, List.getElem?_toArray, List.getElem?_cons_zero, List.getElem?_cons_succ]
                        repeat (first
                          | (refine Order.reads_off (by rfl) ?_
                             simp only [Act.put, List.setIfInBounds_toArray, List.set_cons_zero, List.set_cons_succ])
                          | (apply Order.reads_on
                             · rfl
                             · intro x hx
                               first
                                 | (go_simp; rfl)
                                 | (fail
                                    go_simp; rfl)
                             simp only [Act.put, List.setIfInBounds_toArray, List.set_cons_zero, List.set_cons_succ]))
                        refine Order.reads_end ?_
                        apply Order.lastE (i := 9)
                        · rfl
                        · decide +kernel
                        · decide
                        · rfl
                        unfold Oper.wp
                        go_simp
                        refine Order.doneE (by decide +kernel) ?_ _
                        refine NoPanic.normal ?_
                        clear HF c0 c1 c2 c3 c4 f0 f1 f2 f3 f4
                        go_wp2_with fail
                        go_meet
                        case rel => exact ⟨p', t.lose fc, Made X.drew z1, Grow G X.drew z1, _, _, _, rfl, rfl, rfl, HFin.out⟩
                      · have ek4 : (kd == 4) = false := by simp [hk4]
                        clear hk1 hk2 hk3 hk4
                        go_wp2_with fail
                        go_meet
                        case rel => exact ⟨p, t, F, G, kv, cv, 0, rfl, rfl, rfl, HX.out.1.more (Nat.le_succ j)⟩
              case rest =>
                obtain ⟨p', t', F', G', kv', cv', c, rfl, rfl, rfl, HP'⟩ := hcut
                clear q0 q1 q2 q3
                have hcc : (c != c) = false := bne_self_eq_false c
                have hnn : ((n : Int) != (n : Int)) = false := bne_self_eq_false _
                have hdd : (t'.dark != t'.dark) = false := by cases t'.dark <;> rfl
                have hll : ((t'.cache.length : Int) != (t'.cache.length : Int)) = false := bne_self_eq_false _
                obtain ⟨ka, kq, hka⟩ := HP'.out.dk.now.slice
                obtain ⟨ca, cq, hca⟩ := HP'.out.dc.now.slice
                subst hka hca
                have HPd := Lib.hid (fun m => HP'.out.on (z := wc.drewN m) (below_drewN (Below.refl _ _) m))
                have HC1 := Lib.hid (fun m => cached_any (HPd.out m).is)
                have HC2 := Lib.hid (fun m => dark_any (HPd.out m).is)
                have HC3 := Lib.hid (fun m => sectors_any (HPd.out m).is)
                obtain ⟨-, -, h2, -, h4⟩ := HP'.out.box.cells
                go_wp2_with fail
                go_quiet (first
                  | (go_at_call 18; exact Calls.quiet_of_same (HC1.out _))
                  | (go_at_call 19; exact Calls.quiet_of_same (HC2.out _))
                  | (go_at_call 20; exact Calls.quiet_of_same (HC3.out _)))
                clear h2 h4 HC1 HC2 HC3 hcc hdd hll hnn
                have HPe := Lib.hid (HPd.out nq)
                clear HPd
                generalize wc.drewN nq = V0 at *
                go_wp2_with fail
                go_loopw [170] (fun vi y => ∃ i : Nat, i ≤ l.length ∧ vi = .int .i64 (i : Int) ∧ Hid (Pl w y p' R n t' F' G' (.slice ka t'.kept.length kq) (.slice ca t'.cache.length cq) (j + 1))) (fun vi _ => l.length - (intOf vi).toNat)
                case atStart => exact ⟨0, by omega, rfl, HPe.out⟩
                case round =>
                  obtain ⟨i, hi, rfl, HI⟩ := hrel
                  by_cases hlt2 : i < l.length
                  · obtain ⟨g, q, hix, ob2, oc2, cb2, cc2, a0, a1, a2, a3, -, -⟩ := act_at HV.out HI.out.below hlt2
                    generalize l[i] = ac at *
                    obtain ⟨kd2, at2, bb2, fc2⟩ := ac
                    simp only at a0 a1 a2 a3
                    obtain ⟨X2, hX2⟩ : ∃ X, X = wr.alloc (.cells #[.int .i64 kd2, .int .i64 at2, .slice ob2 bb2.length cb2, .slice oc2 fc2.length cc2] tAc) := ⟨_, rfl⟩
                    have hbx : Below wr.heap.size wr X2 := by rw [hX2]; exact (Below.refl _ _).alloc (Nat.le_refl _) _
                    have hbox : X2.heap[wr.heap.size]? = some (.cells #[.int .i64 kd2, .int .i64 at2, .slice ob2 bb2.length cb2, .slice oc2 fc2.length cc2] tAc (0, 0)) := by rw [hX2]; exact heap_alloc_new wr _
                    have HX2 := Lib.hid (And.intro (HI.out.on hbx) hbox)
                    clear hbx hbox
                    go_upto_region 37 with fail
                    rw [← hX2]
                    clear hX2 a0 a1 a2 a3 hix
                    generalize wr.heap.size = A2 at *
                    have q1 : X2.cell? ⟨A2, 1, none⟩ = some (.int .i64 at2) := by rw [Lib.cell_of_heap HX2.out.2]; rfl
                    by_cases hat : 0 ≤ at2 ∧ at2 < n
                    · have HRd := Lib.hid (tread_any at2 HX2.out.1.is hat.1 hat.2)
                      have hg0 : ¬ at2 < 0 := by omega
                      have hg1 : ¬ (n : Int) ≤ at2 := by omega
                      clear hat
                      go_wp2_with fail
                      refine HRd.out.mono ?_
                      rintro e y1 ⟨rfl, hx, hb⟩
                      have r1 : y1.cell? ⟨A2, 1, none⟩ = some (.int .i64 at2) := (hb.cell (p := ⟨A2, 1, none⟩) (World.block_lt_of_cell? X2 _ q1)).trans q1
                      have hP1 := HX2.out.1.on hb
                      have HDr := Lib.hid (dread_any (n : Int) _ _ t' at2 y1 hP1.dk.now hP1.dc.now)
                      unfold trV at HDr
                      obtain ⟨c0, c1, c2, c3, c4⟩ := hP1.box.cells
                      have hlen := read_len HX2.out.1.is at2
                      have HY1 := Lib.hid (And.intro hx (And.intro hP1 (And.intro hlen hb)))
                      clear hx hb hP1 hlen q1 HRd
                      go_wp2_with fail
                      refine HDr.out.mono ?_
                      rintro e y2 ⟨rfl, hb2⟩
                      have hlen := HY1.out.2.2.1
                      have hz := zero_sec
                      have hs0 : (sec nul).size = 128 := rfl
                      have hs8 := sec_size hlen
                      have hst := store_sec y2 y2.heap.size nul (t'.read nul at2) rfl rfl hlen
                      obtain ⟨Y3, hY3⟩ : ∃ Y3, Y3 = y2.alloc (.cells (sec (t'.read nul at2)) tSec) := ⟨_, rfl⟩
                      have hb3 : Below y2.heap.size y2 Y3 := by rw [hY3]; exact (Below.refl _ _).alloc (Nat.le_refl _) _
                      have hn3 : Y3.heap[y2.heap.size]? = some (.cells (sec (t'.read nul at2)) tSec (0, 0)) := by rw [hY3]; exact heap_alloc_new y2 _
                      have hb13 := hb2.trans (hb3.mono hb2.size)
                      have HY3 := Lib.hid (And.intro ((hb13.block _ (Array.getElem?_eq_some_iff.1 HY1.out.1).1).trans HY1.out.1) (And.intro hn3 (And.intro (HY1.out.2.1.on hb13) (HY1.out.2.2.2.trans (hb13.mono HY1.out.2.2.2.size)))))
                      clear hb2 hb3 hn3 hb13 hlen r1 c0 c1 c2 c3 c4 HDr
                      go_upto_region 42 with fail
                      rw [← hY3]
                      clear hY3 hz hs0 hs8 hst
                      generalize y2.heap.size = D2 at *
                      obtain ⟨B2, hB2⟩ : ∃ B2, B2 = X2.heap.size := ⟨_, rfl⟩
                      rw [← hB2] at HY3 HY1 ⊢
                      have HBx := Lib.hid hB2.symm
                      clear hB2
                      obtain ⟨rd, hrd⟩ : ∃ rd, rd = t'.read nul at2 := ⟨_, rfl⟩
                      rw [← hrd] at HY3 HY1
                      have hs1 : ∀ m, (convert 33 9 (.slice (some ⟨B2, 0, none⟩) 128 128)).run Try.prog (Y3.drewN m) = .ok (.string (str rd)) (Y3.drewN m) := fun m => sec_str (x := Y3.drewN m) HY3.out.1 HY1.out.2.2.1
                      have hs2 : ∀ m, (convert 33 9 (.slice (some ⟨D2, 0, none⟩) 128 128)).run Try.prog (Y3.drewN m) = .ok (.string (str rd)) (Y3.drewN m) := fun m => sec_str (x := Y3.drewN m) HY3.out.2.1 HY1.out.2.2.1
                      obtain ⟨uu, huu⟩ : ∃ uu, rd[0]? = some uu := ⟨rd[0]'(by have := HY1.out.2.2.1; omega), List.getElem?_eq_getElem _⟩
                      have HCe := Lib.hid (And.intro (first_cell HY3.out.1 huu) (Lib.frozen_of_heap HY3.out.1 0))
                      clear huu hrd
                      generalize str rd = S at *
                      go_quiet (fail)
                      clear hs1 hs2
                      have hb4 : Below X2.heap.size X2 ((Y3.drewN nq).setCell ⟨B2, 0, none⟩ (.int .u8 (IntKind.u8.wrap ((uu.toNat : Int) + 1)))) := by
                        have h0 := below_drewN HY3.out.2.2.2 nq
                        exact (h0.setCell (p := ⟨B2, 0, none⟩) (Nat.le_refl _) _).mono (Nat.le_of_eq HBx.out)
                      have HFin := Lib.hid (HX2.out.1.on hb4)
                      clear hb4
                      obtain ⟨hce, hfr⟩ := HCe.out
                      go_wp2_with fail
                      go_roundw
                      case rel => exact ⟨i + 1, by omega, by go_num, HFin.out⟩
                      case measure => simp [intOf]; omega
                    · have HRd := Lib.hid (tread_none at2 HX2.out.1.is hat)
                      have HHt := Lib.hid hat
                      by_cases hg0 : at2 < 0
                      · clear hat
                        go_wp2_with fail
                        refine HRd.out.mono ?_
                        rintro e y1 ⟨rfl, rfl⟩
                        go_wp2_with fail
                        go_roundw
                        case rel => exact ⟨i + 1, by omega, by go_num, HX2.out.1⟩
                        case measure => simp [intOf]; omega
                      · have hg1 : (n : Int) ≤ at2 := by omega
                        clear hat
                        go_wp2_with fail
                        refine HRd.out.mono ?_
                        rintro e y1 ⟨rfl, rfl⟩
                        go_wp2_with fail
                        go_roundw
                        case rel => exact ⟨i + 1, by omega, by go_num, HX2.out.1⟩
                        case measure => simp [intOf]; omega
                  · have hne2 : ¬ (i : Int) < (l.length : Int) := by omega
                    clear hlt2
                    go_wp2_with fail
                    go_roundw
                    case rel => exact ⟨j + 1, p', t', F', G', _, _, by omega, by go_num, rfl, HI.out⟩
                    case measure => simp [intOf]; omega
        · have hne : ¬ (j : Int) < (l.length : Int) := by omega
          clear hlt
          go_wp2_with fail
          go_ret
          exact ⟨rfl, HP.out.below⟩
    · have HN := Lib.hid (new_none z hn x1)
      have HD := Lib.hid (rnew_any z false (by simp; omega) x1)
      unfold trV at HD
      have hn2 := hn
      clear hn
      go_wp2_with fail
      refine HN.out.mono ?_
      rintro e x2 ⟨rfl, rfl⟩
      go_wp2_with fail
      refine HD.out.mono ?_
      rintro e x3 ⟨rfl, hb⟩
      have H3 := Lib.hid ((H1.out.trans (hb.mono H1.out.size)))
      clear hb HN HD
      go_wp2_with fail
      go_ret
      exact ⟨rfl, H3.out.alloc H3.out.size _⟩
end LawT12L
end Ta
end Go.Proofs.Ytamomojjodknaaa
