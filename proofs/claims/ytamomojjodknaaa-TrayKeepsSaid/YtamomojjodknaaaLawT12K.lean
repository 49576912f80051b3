/-
  TrayKeeps, walked: behind any loss of power a sector is what it was flushed as, or one of the writes that lay in the cache; with all chosen it is as it was read, with none as it was flushed.
-/
import Derived.Test.YtamomojjodknaaaTaNote
namespace Go.Proofs.Ytamomojjodknaaa
open Go.RowKit
namespace Ta
open Knot (Turns NewRow)
open Tr (IsElem append_rows walk_rows own_turn own_below own_slice own_open addp)
section
variable {w x y z : World}
/-- What is gone through behind the losses. -/
structure Kq (w y : World) (p q1 q2 q3 : Nat) (t t1 t2 t3 : Tray (List UInt8)) (F F1 F2 F3 : Nat → Prop) (kv cv : Value) : Prop where
  below : Below w.heap.size w y
  is0 : IsT y p 16 t F
  is1 : IsT y q1 16 t1 F1
  is2 : IsT y q2 16 t2 F2
  is3 : IsT y q3 16 t3 F3
  kept : y.ownsRow w.heap.size tNo 2 kv t.kept.length (ncells t.kept)
  cache : y.ownsRow w.heap.size tNo 2 cv t.cache.length (ncells t.cache)
theorem Kq.on {p q1 q2 q3 : Nat} {t t1 t2 t3 : Tray (List UInt8)} {F F1 F2 F3 : Nat → Prop} {kv cv : Value} (h : Kq w y p q1 q2 q3 t t1 t2 t3 F F1 F2 F3 kv cv) (hb : Below y.heap.size y z) : Kq w z p q1 q2 q3 t t1 t2 t3 F F1 F2 F3 kv cv :=
  ⟨h.below.trans (hb.mono h.below.size), h.is0.below hb, h.is1.below hb, h.is2.below hb, h.is3.below hb, own_below h.kept hb, own_below h.cache hb⟩
theorem set_mark {n j : Nat} (h : j < n) : (List.replicate j (Value.bool true) ++ List.replicate (n - j) (Value.bool false)).set j (.bool true) = List.replicate (j + 1) (Value.bool true) ++ List.replicate (n - (j + 1)) (Value.bool false) := by
  obtain ⟨m, rfl⟩ : ∃ m, n = j + 1 + m := ⟨n - (j + 1), by omega⟩
  rw [show j + 1 + m - j = m + 1 by omega, show j + 1 + m - (j + 1) = m by omega, List.replicate_succ, List.set_append_right _ _ (by simp), List.length_replicate, Nat.sub_self, List.set_cons_zero, List.replicate_succ', List.append_assoc]
  rfl
end
/-- Whether a text is what was kept, or one of the first writes of a sector. -/
def okB (l : List (Int × List UInt8)) (m : Int) (SA SW : ByteArray) (i : Nat) : Bool := (SA.toList == SW.toList) || (l.take i).any fun q => (q.1 == m) && ((str q.2).toList == SA.toList)
theorem okB_zero (l : List (Int × List UInt8)) (m : Int) (SA SW : ByteArray) : okB l m SA SW 0 = (SA.toList == SW.toList) := by simp [okB]
theorem okB_step {l : List (Int × List UInt8)} {i : Nat} (h : i < l.length) (m : Int) (SA SW : ByteArray) : okB l m SA SW (i + 1) = (okB l m SA SW i || ((l[i].1 == m) && ((str l[i].2).toList == SA.toList))) := by
  unfold okB
  rw [List.take_succ_eq_append_getElem h, List.any_append, Bool.or_assoc]
  simp
theorem okB_end {l : List (Int × List UInt8)} {m : Int} {SA SW : ByteArray} (h : SA = SW ∨ ∃ q ∈ l, q.1 = m ∧ str q.2 = SA) : okB l m SA SW l.length = true := by
  unfold okB
  rw [List.take_length]
  rcases h with rfl | ⟨q, hq, h1, h2⟩
  · simp
  · rw [Bool.or_eq_true]
    right
    rw [List.any_eq_true]
    exact ⟨q, hq, by simp [h1, h2]⟩
namespace LawT12K
set_option maxHeartbeats 16000000 in
set_option maxRecDepth 100000 in
theorem walk (l : List Act) (v : Value) (cs : List Bool) (va : Value) (w : World) (hv : IsActs w v l) (ha : IsFlags w va cs) :
    Calls Try.prog 4 #[v, va] w fun e x => e = .returned (.bool true) ∧ Below w.heap.size w x := by
  have HV := Lib.hid hv
  have HF := Lib.hid ha
  obtain ⟨ao, cap, rfl, hlen⟩ := acts_len hv
  obtain ⟨ka, qa, rfl, -⟩ := ha
  have HN := Lib.hid (new_any 16 (by omega) w)
  clear hv
  go_enter Try.func4, Try.ntmps4
  go_wp2_with fail
  refine HN.out.mono ?_
  rintro e x1 ⟨p, rfl, hb, hi⟩
  have H1 := Lib.hid (At.made (Below.refl _ w) hi hb)
  clear hb hi HN
  go_wp2_with fail
  refine (awake_any x1).mono ?_
  rintro e x2 ⟨rfl, hb⟩
  have H2 := Lib.hid (H1.out.on hb)
  clear hb H1
  by_cases h60 : 60 < l.length
  · have e60 : ((60 : Int) < (l.length : Int)) := by omega
    go_wp2_with fail
    refine (awake_any x2).mono ?_
    rintro e x3 ⟨rfl, hb⟩
    have H3 := Lib.hid (H2.out.on hb).below
    clear hb
    go_wp2_with fail
    go_ret
    exact ⟨rfl, H3.out⟩
  · have e60 : ¬ ((60 : Int) < (l.length : Int)) := by omega
    have hmk := make_flags l.length (by omega) x2
    obtain ⟨X, hX⟩ : ∃ X, X = x2.alloc (.cells (List.replicate l.length (Value.bool false)).toArray tBo) := ⟨_, rfl⟩
    have H3 := Lib.hid (show Kp w X p Tray.fresh (Made w x2) (.slice none 0 0) (.slice none 0 0) x2.heap.size l.length 0 (List.replicate 0 (Value.bool true) ++ List.replicate (l.length - 0) (Value.bool false)) from by
      have hb : Below x2.heap.size x2 X := by rw [hX]; exact (Below.refl _ _).alloc (Nat.le_refl _) _
      refine ⟨H2.out.below.trans (hb.mono H2.out.below.size), H2.out.is.below hb, fun k hk => hk.1, rfl, Nat.le_refl _, World.ownsRow_nil _ _ _ _, World.ownsRow_nil _ _ _ _, (fun k hk => nomatch hk), (fun k hk => nomatch hk), ?_, fun hk => by have := hk.2; omega⟩
      rw [hX]
      have := World.ownsRow_lit (base := w.heap.size) (e := tBo) (size := 1) x2 (List.replicate l.length (Value.bool false)).toArray l.length H2.out.below.size (by unfold maxLen; omega) (by simp)
      simpa using this)
    rw [← hX] at hmk
    clear hX
    go_wp2_with fail
    clear hmk
    go_loopw [7, 8, 57] (fun vk vc vi y => ∃ (j : Nat) (t : Tray (List UInt8)) (F : Nat → Prop), j ≤ l.length ∧ vi = .int .i64 (j : Int) ∧ Hid (Kp w y p t F vk vc x2.heap.size l.length j (List.replicate j (Value.bool true) ++ List.replicate (l.length - j) (Value.bool false)))) (fun _ _ vi _ => l.length - (intOf vi).toNat)
    case atStart => exact ⟨0, Tray.fresh, Made w x2, by omega, rfl, H3.out⟩
    case round =>
      obtain ⟨j, t, F, hj, rfl, HT⟩ := hrel
      clear H3
      have hj60 : j ≤ 60 := by omega
      have HC := Lib.hid (show t.cache.length + t.kept.length ≤ 60 from Nat.le_trans HT.out.few (by omega))
      obtain ⟨ko, kc, hvk⟩ := own_slice HT.out.kept
      obtain ⟨co, cc', hvc⟩ := own_slice HT.out.cache
      subst hvk hvc
      obtain ⟨ni, nz, nb, TN, hnb⟩ := noElem
      have HTN := Lib.hid (And.intro TN hnb)
      clear TN hnb
      by_cases hlt : j < l.length
      · obtain ⟨g, q, hix, ob, oc, cb', cc, a0, a1, a2, a3, hbs, -⟩ := act_at HV.out HT.out.below hlt
        generalize l[j] = ac at *
        obtain ⟨kd, at_, bb, fc⟩ := ac
        simp only at a0 a1 a2 a3 hbs
        obtain ⟨X, hX⟩ : ∃ X, X = wr.alloc (.cells #[.int .i64 kd, .int .i64 at_, .slice ob bb.length cb', .slice oc fc.length cc] tAc) := ⟨_, rfl⟩
        have hbx : Below wr.heap.size wr X := by rw [hX]; exact (Below.refl _ _).alloc (Nat.le_refl _) _
        have hbox : X.heap[wr.heap.size]? = some (.cells #[.int .i64 kd, .int .i64 at_, .slice ob bb.length cb', .slice oc fc.length cc] tAc (0, 0)) := by rw [hX]; exact heap_alloc_new wr _
        have hga := HT.out.all.lt x2.heap.size rfl
        have KX := HT.out.on hbx
        have hc1 : X.cell? ⟨x2.heap.size, j, none⟩ = some (.bool false) := by
          rw [KX.all.cellAt j (by omega), List.getElem?_append_right (by simp), List.length_replicate, Nat.sub_self, List.getElem?_replicate, if_pos (by omega)]
        have hf1 : X.frozen? ⟨x2.heap.size, j, none⟩ = false := KX.all.frozenAt j
        have KM := KX.mark j (.bool true)
        rw [set_mark hlt] at KM
        obtain ⟨Y, hY⟩ : ∃ Y, Y = X.setCell ⟨x2.heap.size, j, none⟩ (.bool true) := ⟨_, rfl⟩
        have hboxY : Y.heap[wr.heap.size]? = some (.cells #[.int .i64 kd, .int .i64 at_, .slice ob bb.length cb', .slice oc fc.length cc] tAc (0, 0)) := by
          rw [hY]
          exact (Below.heap_setCell X ⟨x2.heap.size, j, none⟩ _ wr.heap.size (by show wr.heap.size ≠ x2.heap.size; omega)).trans hbox
        rw [← hY] at KM
        have q0 : Y.cell? ⟨wr.heap.size, 0, none⟩ = some (.int .i64 kd) := by rw [Lib.cell_of_heap hboxY]; rfl
        have q1 : Y.cell? ⟨wr.heap.size, 1, none⟩ = some (.int .i64 at_) := by rw [Lib.cell_of_heap hboxY]; rfl
        have q2 : Y.cell? ⟨wr.heap.size, 2, none⟩ = some (.slice ob bb.length cb') := by rw [Lib.cell_of_heap hboxY]; rfl
        have hxi : ∀ W, (Instr.indexAt 34 (.slice (some ⟨x2.heap.size, 0, none⟩) l.length l.length) (.int .i64 (j : Int))).run Try.prog W = .ok (.pointer (some ⟨x2.heap.size, j, none⟩)) W := fun W => by
          have hz : ∀ w, (sizeOf (Try.prog.elem 34)).run Try.prog w = .ok 1 w := fun w => by kernel_rfl
          rw [run_indexAt_slice W _ _ _ _ _ _ Try.underlying34, if_pos ⟨by omega, by omega⟩, hz]
          have e : ((j : Int)).toNat = j := by omega
          simp only [Result.andThen_ok, e, Addr.add_lit, Nat.mul_one, Nat.zero_add]
        have HM := Lib.hid KM
        have HBx := Lib.hid (And.intro hboxY (show ∀ k, F k → k ≠ wr.heap.size from fun k hk e => by have := HT.out.is.low k hk; omega))
        have HW := Lib.hid (write_any at_ (.slice ob bb.length cb') bb KM.is (stay_arg hbs KM.below KM.new) (by have := HC.out; omega))
        have HFl := Lib.hid (flush_any KM.is (by have := HC.out; omega))
        rw [if_neg (by rw [KM.left]; decide)] at HFl
        clear hbx hbox hboxY KX KM hbs hga
        have HY := Lib.hid hY
        clear hY
        go_upto_region 9 with fail
        rw [← hX]
        clear hX
        go_upto_region 10 with fail
        rw [← HY.out]
        clear HY a0 a1 a2 a3 hix hc1 hf1 hxi
        by_cases hk2 : kd = 2
        · have ek2 : (kd == 2) = true := by simp [hk2]
          have ek : (kd == 1) = false := by simp [hk2]
          clear hk2
          go_wp2_with fail
          refine HFl.out.mono ?_
          rintro e z ⟨rfl, ht, hi⟩
          have r0 : z.cell? ⟨wr.heap.size, 0, none⟩ = some (.int .i64 kd) := (ht.cell (p := ⟨wr.heap.size, 0, none⟩) (Array.getElem?_eq_some_iff.1 HBx.out.1).1 fun hf => HBx.out.2 _ hf rfl).trans q0
          have hkk := own_turn HM.out.kept ht fun k hk => (HM.out.offk k hk).1
          have hcc := own_turn HM.out.cache ht fun k hk => HM.out.offc k hk
          have HZ := Lib.hid (And.intro ht (And.intro hi (And.intro hkk hcc)))
          clear ht hi q0 q1 q2 HFl HW
          rcases hcc.2 with ⟨hn, h0⟩ | ⟨gc, cap', cur, hn, hbc, hgc, hnc, hcm, hcs, htk⟩
          · obtain ⟨rfl, -, rfl⟩ := Value.slice.inj hn
            have HFin := Lib.hid (HM.out.flushed HZ.out.1 HZ.out.2.1 (kv' := .slice ko t.kept.length kc) (z' := z) (by
              have e0 : t.cache = [] := List.eq_nil_of_length_eq_zero h0
              rw [e0]
              simpa [ncells] using HZ.out.2.2.1) (grown_refl _ _) (NewRow.refl _ _))
            rw [h0] at *
            clear hkk hcc hn h0
            go_wp2_with (at_builtin; refine walk_none HTN.out.1 rfl _ _ rfl rfl rfl HZ.out.2.2.1 (by have := HC.out; omega) ?_)
            go_roundw
            case rel => exact ⟨j + 1, t.flush, F, by omega, by go_num, HFin.out.more (Nat.le_succ j)⟩
            case measure => simp [intOf]; omega
          · obtain ⟨rfl, -, rfl⟩ := Value.slice.inj hn
            have hcell := HZ.out.2.2.2.cells (g := gc) rfl
            have HCell := Lib.hid hcell
            clear hkk hcc hn hbc hgc hnc hcm hcs htk hcell
            go_wp2_with (at_builtin; refine walk_rows HTN.out.1 rfl _ _ rfl rfl rfl HZ.out.2.2.1 (Nat.le_trans HM.out.below.size HZ.out.1.size) (m := t.cache.length) (news := ncells t.cache) (ncells_len _) HCell.out (one_notes _) (by have := HC.out; omega) (Nat.le_trans (Nat.mul_le_mul_left _ HTN.out.2) (by have := HC.out; omega)) ?_)
            intro v' z' o' g' n'
            have HFin := Lib.hid (HM.out.flushed HZ.out.1 HZ.out.2.1 o' g' n')
            have r1 : z'.cell? ⟨wr.heap.size, 0, none⟩ = some (.int .i64 kd) := g'.cell r0 fun e => by have := (HT.out.kept.lt _ e.symm).2; simp at this
            obtain ⟨ao', cap2, rfl⟩ := own_slice o'
            clear o' g' n' r0
            go_wp2_with fail
            go_roundw
            case rel => exact ⟨j + 1, t.flush, F, by omega, by go_num, HFin.out.more (Nat.le_succ j)⟩
            case measure => simp [intOf]; omega
        · have ek2 : (kd == 2) = false := by simp [hk2]
          by_cases hk : kd = 1
          · have ek : (kd == 1) = true := by simp [hk]
            by_cases h128 : bb.length ≤ 128
            · have e128 : (bb.length : Int) ≤ 128 := by omega
              by_cases hat : 0 ≤ at_ ∧ at_ < 16
              · have hwt : Tray.write 16 t at_ bb = (t.put at_ (pad bb), 0) := by
                  unfold Tray.write
                  rw [if_neg (by omega), if_neg (by rw [HM.out.left]; decide)]
                rw [hwt] at HW
                have HAt := Lib.hid (And.intro hat h128)
                clear hk hk2 h128 hat hwt
                go_wp2_with fail
                refine HW.out.mono ?_
                rintro e z ⟨rfl, ht, hi⟩
                have r1 : z.cell? ⟨wr.heap.size, 1, none⟩ = some (.int .i64 at_) := (ht.cell (p := ⟨wr.heap.size, 1, none⟩) (Array.getElem?_eq_some_iff.1 HBx.out.1).1 fun hf => HBx.out.2 _ hf rfl).trans q1
                have HZ := Lib.hid (And.intro ht hi)
                have HRd := Lib.hid (tread_any at_ hi HAt.out.1.1 HAt.out.1.2)
                rw [Tray.put_read nul (by rw [HM.out.left]; decide), if_pos rfl] at HRd
                clear ht hi q0 q1 q2 HFl HW
                go_wp2_with fail
                refine HRd.out.mono ?_
                rintro e z2 ⟨rfl, hx, hb2⟩
                have r2 : z2.cell? ⟨wr.heap.size, 1, none⟩ = some (.int .i64 at_) := (hb2.cell (p := ⟨wr.heap.size, 1, none⟩) (World.block_lt_of_cell? z _ r1)).trans r1
                have hcv := sec_str hx (pad_len HAt.out.2)
                obtain ⟨Z3, hZ3⟩ : ∃ Z3, Z3 = z2.alloc (.cells #[.int .i64 at_, .string (str (pad bb))] tNo) := ⟨_, rfl⟩
                have hb3 : Below z2.heap.size z2 Z3 := by rw [hZ3]; exact (Below.refl _ _).alloc (Nat.le_refl _) _
                have hnew : Z3.heap[z2.heap.size]? = some (.cells #[.int .i64 at_, .string (str (pad bb))] tNo (0, 0)) := by rw [hZ3]; exact heap_alloc_new z2 _
                have hbz := hb2.trans (hb3.mono hb2.size)
                have hcc := own_below (own_turn HM.out.cache HZ.out.1 fun k hk => HM.out.offc k hk) hbz
                have HN3 := Lib.hid (And.intro hbz (And.intro hcc (show ∀ (j : Nat) (u : Value), [Value.int .i64 at_, .string (str (pad bb))][j]? = some u → Z3.cell? ((⟨z2.heap.size, 0, none⟩ : Addr).add j) = some u from fun j u hu => by
                  rw [addp, Lib.cell_of_heap hnew, Nat.zero_add]
                  simpa using hu)))
                clear hx hb2 r1 hb3 hnew hbz hcc HRd
                subst hZ3
                go_wp2_with (at_builtin; refine walk_rows HTN.out.1 rfl _ _ rfl rfl rfl HN3.out.2.1 (Nat.le_trans HM.out.below.size (Nat.le_trans HZ.out.1.size HN3.out.1.size)) (m := 1) (news := [.int .i64 at_, .string (str (pad bb))]) rfl HN3.out.2.2 (by intro u hu; simp at hu; rcases hu with rfl | rfl <;> rfl) (by have := HC.out; omega) (Nat.le_trans (Nat.mul_le_mul_left _ HTN.out.2) (by have := HC.out; omega)) ?_)
                intro v' z' o' g' n'
                have HFin := Lib.hid (HM.out.written HZ.out.1 HZ.out.2 HN3.out.1 o' g' n')
                obtain ⟨ao', cap2, rfl⟩ := own_slice o'
                clear o' g' n' hcv r2
                go_wp2_with fail
                go_roundw
                case rel => exact ⟨j + 1, t.put at_ (pad bb), Grow F Y z, by omega, by go_num, HFin.out⟩
                case measure => simp [intOf]; omega
              · have hwt : Tray.write 16 t at_ bb = (t, 1) := write_range (.inl hat)
                rw [hwt] at HW
                clear hk hk2 h128 hat hwt
                go_wp2_with fail
                refine HW.out.mono ?_
                rintro e z ⟨rfl, ht, hi⟩
                have HFin := Lib.hid (HM.out.refused ht hi)
                clear ht hi q0 q1 q2 HFl HW
                go_wp2_with fail
                go_roundw
                case rel => exact ⟨j + 1, t, Grow F Y z, by omega, by go_num, HFin.out.more (Nat.le_succ j)⟩
                case measure => simp [intOf]; omega
            · have e128 : ¬ (bb.length : Int) ≤ 128 := by omega
              clear hk hk2 h128
              go_wp2_with fail
              go_roundw
              case rel => exact ⟨j + 1, t, F, by omega, by go_num, HM.out.more (Nat.le_succ j)⟩
              case measure => simp [intOf]; omega
          · have ek : (kd == 1) = false := by simp [hk]
            clear hk hk2
            go_wp2_with fail
            go_roundw
            case rel => exact ⟨j + 1, t, F, by omega, by go_num, HM.out.more (Nat.le_succ j)⟩
            case measure => simp [intOf]; omega
      · have hne : ¬ (j : Int) < (l.length : Int) := by omega
        have hjl : j = l.length := by omega
        subst hjl
        clear hlt
        have hall : IsFlags wr (.slice (some ⟨x2.heap.size, 0, none⟩) l.length l.length) (List.replicate l.length true) := flags_row (B := w.heap.size) (by
          have := HT.out.all
          rw [Nat.sub_self, List.replicate_zero, List.append_nil] at this
          rw [List.map_replicate]
          exact this) (by simp)
        have hcl : t.cache.length ≤ 100000 := by have := HC.out; omega
        have HL1 := Lib.hid (lose_any HT.out.is _ cs (HF.out.below HT.out.below) hcl)
        have HAll := Lib.hid (And.intro hall hcl)
        clear hall hcl
        go_wp2_with fail
        refine HL1.out.mono ?_
        rintro e y1 ⟨q1, rfl, -, hb1, hi1⟩
        have HL2 := Lib.hid (lose_any (HT.out.is.below hb1) _ (List.replicate l.length true) (HAll.out.1.below hb1) HAll.out.2)
        have HY1 := Lib.hid (And.intro hb1 hi1)
        clear hb1 hi1 HL1
        go_wp2_with fail
        refine HL2.out.mono ?_
        rintro e y2 ⟨q2, rfl, -, hb2, hi2⟩
        have h02 := HY1.out.1.trans (hb2.mono HY1.out.1.size)
        have HL3 := Lib.hid (lose_any (HT.out.is.below h02) _ [] (flags_none _) HAll.out.2)
        have HY2 := Lib.hid (And.intro hb2 (And.intro hi2 h02))
        clear hb2 hi2 h02 HL2
        go_wp2_with fail
        refine HL3.out.mono ?_
        rintro e y3 ⟨q3, rfl, -, hb3, hi3⟩
        have HQ0 : ∃ F1 F2 F3, Kq w y3 p q1 q2 q3 t (t.lose cs) (t.lose (List.replicate l.length true)) (t.lose []) F F1 F2 F3 (.slice ko t.kept.length kc) (.slice co t.cache.length cc') := by
          obtain ⟨hb1, hi1⟩ := HY1.out
          obtain ⟨hb2, hi2, h02⟩ := HY2.out
          have h03 := h02.trans (hb3.mono h02.size)
          exact ⟨_, _, _, HT.out.below.trans (h03.mono HT.out.below.size), HT.out.is.below h03, (hi1.below hb2).below hb3, hi2.below hb3, hi3, own_below HT.out.kept h03, own_below HT.out.cache h03⟩
        obtain ⟨F1, F2, F3, hq⟩ := HQ0
        have HQ := Lib.hid hq
        have HCd := Lib.hid (cached_any hq.is1)
        have HDd := Lib.hid (dark_any hq.is1)
        rw [show (t.lose cs).cache.length = 0 from rfl] at HCd
        rw [show (t.lose cs).dark = false from rfl] at HDd
        have HE := Lib.hid (show (∀ k, (t.lose (List.replicate l.length true)).read nul k = t.read nul k) ∧ (∀ k, (t.lose []).read nul k = t.was nul k) ∧ (∀ k, (t.lose cs).read nul k = t.was nul k ∨ ∃ q ∈ t.cache, q.1 = k ∧ q.2 = (t.lose cs).read nul k) from
          ⟨fun k => Tray.lose_all nul t (by have := HT.out.few; omega) k, fun k => Tray.lose_none nul t k, fun k => Tray.lose_or nul t cs k⟩)
        clear hq hb3 hi3 HY1 HY2 HL3 HAll
        go_wp2_with fail
        refine HCd.out.mono ?_
        rintro e y4 ⟨rfl, rfl⟩
        go_wp2_with fail
        refine HDd.out.mono ?_
        rintro e y5 ⟨rfl, rfl⟩
        go_wp2_with fail
        go_loopw [137] (fun vi y => ∃ m : Nat, m ≤ 16 ∧ vi = .int .i64 (m : Int) ∧ Hid (Kq w y p q1 q2 q3 t (t.lose cs) (t.lose (List.replicate l.length true)) (t.lose []) F F1 F2 F3 (.slice ko t.kept.length kc) (.slice co t.cache.length cc'))) (fun vi _ => 16 - (intOf vi).toNat)
        case atStart => exact ⟨0, by omega, rfl, HQ.out⟩
        case round =>
          obtain ⟨m, hm, rfl, HM⟩ := hrel
          clear HQ HCd HDd
          by_cases hlt : m < 16
          · have hmI : (m : Int) < 16 := by omega
            have hm0 : (0 : Int) ≤ (m : Int) := by omega
            have hmk := make_nul wr
            have hnul := sec_str (heap_alloc_new wr (.cells (sec nul) 5)) (show nul.length = 128 from rfl)
            have HK0 := Lib.hid (HM.out.on (z := wr.alloc (.cells (sec nul) 5)) ((Below.refl _ _).alloc (Nat.le_refl _) _))
            clear hlt
            have hkl : t.kept.length ≤ 60 := by have := HC.out; omega
            have hcl : t.cache.length ≤ 60 := by have := HC.out; omega
            obtain ⟨Z, hZ⟩ : ∃ Z, Z = wr.alloc (.cells (sec nul) 5) := ⟨_, rfl⟩
            go_wp2_with fail
            rw [← hZ] at HK0 ⊢
            clear hZ hmk hnul
            go_loopw [18, 144] (fun vs vi y => ∃ i : Nat, i ≤ t.kept.length ∧ vi = .int .i64 (i : Int) ∧ vs = .string (str (last (t.kept.take i) (m : Int) nul)) ∧ Hid (Kq w y p q1 q2 q3 t (t.lose cs) (t.lose (List.replicate l.length true)) (t.lose []) F F1 F2 F3 (.slice ko t.kept.length kc) (.slice co t.cache.length cc'))) (fun _ vi _ => t.kept.length - (intOf vi).toNat)
            case atStart => exact ⟨0, by omega, rfl, by rw [List.take_zero]; rfl, HK0.out⟩
            case round =>
              obtain ⟨i, hi, rfl, rfl, HI⟩ := hrel
              clear HK0
              by_cases hlt : i < t.kept.length
              · obtain ⟨g, -, hix, a0, a1⟩ := note_at HI.out.kept hlt
                have hlast := last_take hlt (m : Int) nul
                generalize hq : t.kept[i] = q at *
                obtain ⟨k, b⟩ := q
                simp only at a0 a1 hlast
                have HZ := Lib.hid (HI.out.on (z := wr.alloc (.cells #[.int .i64 k, .string (str b)] tNo)) ((Below.refl _ _).alloc (Nat.le_refl _) _))
                by_cases hk : k = (m : Int)
                · have ek : (k == (m : Int)) = true := by simp [hk]
                  rw [if_pos hk] at hlast
                  have HLa := Lib.hid hlast
                  clear hk hlast hq
                  go_wp2_with fail
                  go_roundw
                  case rel => exact ⟨i + 1, by omega, by go_num, by rw [HLa.out], HZ.out⟩
                  case measure => simp [intOf]; omega
                · have ek : (k == (m : Int)) = false := by simp [hk]
                  rw [if_neg hk] at hlast
                  have HLa := Lib.hid hlast
                  clear hk hlast hq
                  go_wp2_with fail
                  go_roundw
                  case rel => exact ⟨i + 1, by omega, by go_num, by rw [HLa.out], HZ.out⟩
                  case measure => simp [intOf]; omega
              · have hne : ¬ (i : Int) < (t.kept.length : Int) := by omega
                have hik : i = t.kept.length := by omega
                subst hik
                rw [List.take_length]
                clear hlt
                have H1 := Lib.hid (tread_any (m : Int) HI.out.is0 hm0 hmI)
                have HLen := Lib.hid (And.intro (read_len HI.out.is0 m) (And.intro (read_len HI.out.is1 m) (And.intro (read_len HI.out.is2 m) (read_len HI.out.is3 m))))
                change Code.wp _ _ _ _ _
                go_wp2_with fail
                refine H1.out.mono ?_
                rintro e z1 ⟨rfl, hx1, hb1⟩
                have K1 := HI.out.on hb1
                have H2 := Lib.hid (tread_any (m : Int) K1.is1 hm0 hmI)
                have HB1 := Lib.hid (And.intro hx1 K1)
                clear hx1 hb1 H1 K1
                go_wp2_with fail
                refine H2.out.mono ?_
                rintro e z2 ⟨rfl, hx2, hb2⟩
                have K2 := HB1.out.2.on hb2
                have H3 := Lib.hid (tread_any (m : Int) K2.is2 hm0 hmI)
                have HB2 := Lib.hid (And.intro ((hb2.block _ (Array.getElem?_eq_some_iff.1 HB1.out.1).1).trans HB1.out.1) (And.intro hx2 K2))
                clear hx2 hb2 H2 K2 HB1
                go_wp2_with fail
                refine H3.out.mono ?_
                rintro e z3 ⟨rfl, hx3, hb3⟩
                have K3 := HB2.out.2.2.on hb3
                have H4 := Lib.hid (tread_any (m : Int) K3.is3 hm0 hmI)
                have HB3 := Lib.hid (And.intro ((hb3.block _ (Array.getElem?_eq_some_iff.1 HB2.out.1).1).trans HB2.out.1) (And.intro ((hb3.block _ (Array.getElem?_eq_some_iff.1 HB2.out.2.1).1).trans HB2.out.2.1) (And.intro hx3 K3)))
                clear hx3 hb3 H3 K3 HB2
                go_wp2_with fail
                refine H4.out.mono ?_
                rintro e z4 ⟨rfl, hx4, hb4⟩
                have k1 := (hb4.block _ (Array.getElem?_eq_some_iff.1 HB3.out.1).1).trans HB3.out.1
                have k2 := (hb4.block _ (Array.getElem?_eq_some_iff.1 HB3.out.2.1).1).trans HB3.out.2.1
                have k3 := (hb4.block _ (Array.getElem?_eq_some_iff.1 HB3.out.2.2.1).1).trans HB3.out.2.2.1
                rw [HE.out.2.1] at hx4
                rw [HE.out.1] at k3
                have hl3 := HLen.out.2.2.1
                have hl4 := HLen.out.2.2.2
                rw [HE.out.1] at hl3
                rw [HE.out.2.1] at hl4
                have HK4 := Lib.hid (HB3.out.2.2.2.on hb4)
                have HH := Lib.hid (And.intro k1 (And.intro k2 (And.intro k3 hx4)))
                have HLn := Lib.hid (And.intro HLen.out.1 (And.intro HLen.out.2.1 hl4))
                have s2 := sec_str k2 HLen.out.2.1
                have hor := HE.out.2.2 (m : Int)
                have HOr := Lib.hid hor
                have HB4 := Lib.hid hb4
                clear k1 k2 k3 hx4 hl3 hl4 hb4 hor HLen HB3 H4
                generalize hSA : str ((t.lose cs).read nul (m : Int)) = SA at *
                generalize hSW : str (last t.kept (m : Int) nul) = SW at *
                have HSS := Lib.hid (And.intro hSA hSW)
                clear hSA hSW HB4
                generalize wr.heap.size = n1 at *
                generalize z1.heap.size = n2 at *
                generalize z2.heap.size = n3 at *
                generalize z3.heap.size = n4 at *
                go_wp2_with fail
                rw [← okB_zero t.cache (m : Int) SA SW]
                clear s2
                go_loopw [29, 185] (fun vs vi y => ∃ i : Nat, i ≤ t.cache.length ∧ vi = .int .i64 (i : Int) ∧ vs = .bool (okB t.cache (m : Int) SA SW i) ∧ Hid (Kq w y p q1 q2 q3 t (t.lose cs) (t.lose (List.replicate l.length true)) (t.lose []) F F1 F2 F3 (.slice ko t.kept.length kc) (.slice co t.cache.length cc') ∧ Below z4.heap.size z4 y)) (fun _ vi _ => t.cache.length - (intOf vi).toNat)
                case atStart => exact ⟨0, by omega, rfl, rfl, ⟨HK4.out, Below.refl _ _⟩⟩
                case round =>
                  obtain ⟨i, hi, rfl, rfl, HI2⟩ := hrel
                  by_cases hlt : i < t.cache.length
                  · obtain ⟨g, -, hix, a0, a1⟩ := note_at HI2.out.1.cache hlt
                    have hst := okB_step hlt (m : Int) SA SW
                    generalize hq : t.cache[i] = q at *
                    obtain ⟨k, b⟩ := q
                    simp only at a0 a1 hst
                    have hbz : Below wr.heap.size wr (wr.alloc (.cells #[.int .i64 k, .string (str b)] tNo)) := (Below.refl _ _).alloc (Nat.le_refl _) _
                    have hb4 := HI2.out.2.trans (hbz.mono HI2.out.2.size)
                    have HZ := Lib.hid (And.intro (HI2.out.1.on hbz) hb4)
                    have s2 := sec_str ((hb4.block _ (Array.getElem?_eq_some_iff.1 HH.out.2.1).1).trans HH.out.2.1) HLn.out.2.1
                    rw [HSS.out.1] at s2
                    cases hok : okB t.cache (m : Int) SA SW i with
                    | true =>
                      rw [hok, Bool.true_or] at hst
                      have HS := Lib.hid hst
                      clear hst hok hq hbz hb4 s2
                      go_wp2_with fail
                      go_roundw
                      case rel => exact ⟨i + 1, by omega, by go_num, by rw [HS.out], HZ.out⟩
                      case measure => simp [intOf]; omega
                    | false =>
                      rw [hok, Bool.false_or] at hst
                      by_cases hk : k = (m : Int)
                      · have ek : (k == (m : Int)) = true := by simp [hk]
                        rw [ek, Bool.true_and] at hst
                        have HS := Lib.hid hst
                        clear hst hok hq hbz hb4 hk
                        go_wp2_with fail
                        go_roundw
                        case rel => exact ⟨i + 1, by omega, by go_num, by rw [HS.out], HZ.out⟩
                        case measure => simp [intOf]; omega
                      · have ek : (k == (m : Int)) = false := by simp [hk]
                        rw [ek, Bool.false_and] at hst
                        have HS := Lib.hid hst
                        clear hst hok hq hbz hb4 s2 hk
                        go_wp2_with fail
                        go_roundw
                        case rel => exact ⟨i + 1, by omega, by go_num, by rw [HS.out], HZ.out⟩
                        case measure => simp [intOf]; omega
                  · have hne2 : ¬ (i : Int) < (t.cache.length : Int) := by omega
                    have hic : i = t.cache.length := by omega
                    subst hic
                    rw [okB_end (by
                      rcases HOr.out with h | ⟨q, hq, h1, h2⟩
                      · left
                        rw [← HSS.out.1, ← HSS.out.2, h]; rfl
                      · right
                        exact ⟨q, hq, h1, by rw [h2, HSS.out.1]⟩)]
                    have blk : ∀ {n : Nat} {o : Obj}, z4.heap[n]? = some o → wr.heap[n]? = some o := fun h => (HI2.out.2.block _ (Array.getElem?_eq_some_iff.1 h).1).trans h
                    have e1 := sec_str (blk HH.out.1) HLn.out.1
                    have e3 := sec_str (blk HH.out.2.2.1) HLn.out.1
                    have e4 := sec_str (blk HH.out.2.2.2) HLn.out.2.2
                    rw [show str (t.was nul (m : Int)) = SW from HSS.out.2] at e4
                    generalize str (t.read nul (m : Int)) = SN at *
                    clear hlt blk
                    go_wp2_with fail
                    go_roundw
                    case rel => exact ⟨m + 1, by omega, by go_num, HI2.out.1⟩
                    case measure => simp [intOf]; omega
          · have hmI : ¬ (m : Int) < 16 := by omega
            go_wp2_with fail
            go_ret
            exact ⟨rfl, HM.out.below⟩
end LawT12K
end Ta
end Go.Proofs.Ytamomojjodknaaa
