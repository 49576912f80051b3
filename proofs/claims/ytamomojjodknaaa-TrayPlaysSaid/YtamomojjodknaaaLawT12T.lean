/-
  TrayTwice, walked: two losses of power are the first one; a flush ahead of one lets its choice not matter.
-/
import Derived.Test.YtamomojjodknaaaLawT12P
namespace Go.Proofs.Ytamomojjodknaaa
open Go.RowKit
namespace Ta
open Knot (Turns NewRow)
section
variable {w x y u : World} {p n : Nat} {t : Tray (List UInt8)} {F : Nat → Prop}
theorem IsBytes.below {v : Value} {b : List UInt8} (h : IsBytes w v b) (hb : Below w.heap.size w x) : IsBytes x v b := Row.below h hb
theorem IsFlags.below {v : Value} {b : List Bool} (h : IsFlags w v b) (hb : Below w.heap.size w x) : IsFlags x v b := Row.below h hb
/-- What came in stays, whatever of the blocks that were made since turns. -/
theorem stay_arg {v : Value} {b : List UInt8} (h : IsBytes w v b) (hb : Below w.heap.size w u) (hF : ∀ k, F k → w.heap.size ≤ k) : Stay F u fun x => IsBytes x v b := fun _ hz =>
  h.below (hb.trans (hz.below hb.size hF))
theorem write_at (h : At w x p n t) (hu : Below x.heap.size x u) (k : Int) {v : Value} {b : List UInt8} (hv : IsBytes w v b) (hc : t.cache.length ≤ 100000) :
    Calls Try.prog 10 #[ptr p, .int .i64 k, v] u fun e y => e = .returned (.int .i64 (t.write n k b).2) ∧ At w y p n (t.write n k b).1 ∧ Turns (Made w x) u y := by
  refine (write_any k v b (h.is.below hu) (stay_arg hv (h.below.trans (hu.mono h.below.size)) fun _ hk => hk.1) hc).mono ?_
  rintro e y ⟨rfl, ht, hi⟩
  exact ⟨rfl, h.step hu ht hi, ht⟩
theorem flush_on (h : At w x p n t) (hu : Below x.heap.size x u) (hc : t.cache.length ≤ 100000) : Calls Try.prog 12 #[ptr p] u fun e y => e = .returned (.int .i64 (if t.left = 0 then 20 else 0)) ∧ At w y p n t.flush ∧ Turns (Made w x) u y := by
  refine (flush_any (h.is.below hu) hc).mono ?_
  rintro e y ⟨rfl, ht, hi⟩
  exact ⟨rfl, h.step hu ht hi.grow, ht⟩
/-- A box that was made since x stays, where the blocks from w to x turn. -/
theorem box_stays {g j : Nat} {c : Value} (hg : x.heap.size ≤ g) (hc : u.cell? ⟨g, j, none⟩ = some c) (ht : Turns (Made w x) u y) : y.cell? ⟨g, j, none⟩ = some c :=
  (ht.cell (p := ⟨g, j, none⟩) (World.block_lt_of_cell? u _ hc) fun h => by have := h.2; simp at this; omega).trans hc
/-- Bytes as a text. -/
def str (b : List UInt8) : ByteArray := ⟨b.toArray⟩
theorem sec_str {g : Nat} {b : List UInt8} {T : TypeId} (h : x.heap[g]? = some (.cells (sec b) T (0, 0))) (hb : b.length = 128) : (convert 33 9 (.slice (some ⟨g, 0, none⟩) 128 128)).run Try.prog x = .ok (.string (str b)) x := by
  have := run_convert_bytes_back (P := Try.prog) x 33 9 5 ⟨g, 0, none⟩ 128 b Try.underlying33 Try.underlying5 Try.underlying9 (fun j hj => by
    rw [Tr.addp, Lib.cell_of_heap h, Nat.zero_add]
    simp [sec, Lib.byteCells, hj])
  rw [hb] at this
  exact this
theorem read_len (h : IsT x p n t F) (k : Int) : (t.read nul k).length = 128 :=
  last_len (fun q hq => (List.mem_append.1 hq).elim (h.lenk q) fun hq => (h.lenc q hq).1) k rfl
/-- Without an end of power. -/
theorem write_left {t : Tray (List UInt8)} (h : t.left = -1) (k : Int) (b : List UInt8) : (t.write n k b).1.left = -1 := by
  unfold Tray.write
  split
  · exact h
  · rw [if_neg (by omega)]
    exact Tray.put_left h k _
theorem write_few (t : Tray (List UInt8)) (k : Int) (b : List UInt8) : (t.write n k b).1.cache.length ≤ t.cache.length + 1 := by
  unfold Tray.write
  split
  · exact Nat.le_succ _
  · split
    · exact Nat.le_succ _
    · show (t.put k (pad b)).cache.length ≤ _
      unfold Tray.put
      split
      · exact Nat.le_succ _
      · simp
theorem flush_few (t : Tray (List UInt8)) : t.flush.cache.length ≤ t.cache.length := by
  unfold Tray.flush
  split
  · exact Nat.le_refl _
  · exact Nat.zero_le _
end
namespace LawT12T
set_option maxHeartbeats 16000000 in
set_option maxRecDepth 100000 in
theorem walk (l : List Act) (v : Value) (ca : List Bool) (va : Value) (cb : List Bool) (vb : Value) (w : World) (hv : IsActs w v l) (ha : IsFlags w va ca) (hb : IsFlags w vb cb) :
    Calls Try.prog 6 #[v, va, vb] w fun e x => e = .returned (.bool true) ∧ Below w.heap.size w x := by
  have HV := Lib.hid hv
  have HF := Lib.hid (And.intro ha hb)
  obtain ⟨ao, cap, rfl, hlen⟩ := acts_len hv
  obtain ⟨ka, qa, rfl, -⟩ := ha
  obtain ⟨kb, qb, rfl, -⟩ := hb
  have HN := Lib.hid (new_any 16 (by omega) w)
  clear hv
  go_enter Try.func6, Try.ntmps6
  go_wp2_with fail
  refine HN.out.mono ?_
  rintro e x1 ⟨p, rfl, hb, hi⟩
  have H1 := Lib.hid (At.made (Below.refl _ w) hi hb)
  clear hb hi HN
  go_wp2_with fail
  refine (awake_any x1).mono ?_
  rintro e x2 ⟨rfl, hb⟩
  have H2 := Lib.hid (H1.out.on hb)
  clear hb H1
  by_cases h60 : 60 < l.length
  · have e60 : ((60 : Int) < (l.length : Int)) := by omega
    go_wp2_with fail
    refine (awake_any x2).mono ?_
    rintro e x3 ⟨rfl, hb⟩
    have H3 := Lib.hid (H2.out.on hb).below
    clear hb
    go_wp2_with fail
    go_ret
    exact ⟨rfl, H3.out⟩
  · have e60 : ¬ ((60 : Int) < (l.length : Int)) := by omega
    go_wp2_with fail
    go_loopw [45] (fun vi y => ∃ (j : Nat) (t : Tray (List UInt8)), j ≤ l.length ∧ vi = .int .i64 (j : Int) ∧ Hid (At w y p 16 t ∧ t.cache.length ≤ j ∧ t.left = -1)) (fun vi _ => l.length - (intOf vi).toNat)
    case atStart => exact ⟨0, Tray.fresh, by omega, rfl, ⟨H2.out, Nat.le_refl _, rfl⟩⟩
    case round =>
      obtain ⟨j, t, hj, rfl, HT⟩ := hrel
      clear H2
      have hj60 : j ≤ 60 := by omega
      have HC := Lib.hid (show t.cache.length ≤ 100000 from Nat.le_trans HT.out.2.1 (by omega))
      by_cases hlt : j < l.length
      · obtain ⟨g, q, hix, ob, oc, cb', cc, a0, a1, a2, a3, hbs, -⟩ := act_at HV.out HT.out.1.below hlt
        generalize l[j] = ac at *
        obtain ⟨kd, at_, bb, fc⟩ := ac
        simp only at a0 a1 a2 a3 hbs
        obtain ⟨X, hX⟩ : ∃ X, X = wr.alloc (.cells #[.int .i64 kd, .int .i64 at_, .slice ob bb.length cb', .slice oc fc.length cc] tAc) := ⟨_, rfl⟩
        have hbx : Below wr.heap.size wr X := by rw [hX]; exact (Below.refl _ _).alloc (Nat.le_refl _) _
        have HA := Lib.hid (HT.out.1.on hbx)
        have HDk := Lib.hid HT.out.2
        have hbox : X.heap[wr.heap.size]? = some (.cells #[.int .i64 kd, .int .i64 at_, .slice ob bb.length cb', .slice oc fc.length cc] tAc (0, 0)) := by rw [hX]; exact heap_alloc_new wr _
        have q0 : X.cell? ⟨wr.heap.size, 0, none⟩ = some (.int .i64 kd) := by rw [Lib.cell_of_heap hbox]; rfl
        have q1 : X.cell? ⟨wr.heap.size, 1, none⟩ = some (.int .i64 at_) := by rw [Lib.cell_of_heap hbox]; rfl
        have q2 : X.cell? ⟨wr.heap.size, 2, none⟩ = some (.slice ob bb.length cb') := by rw [Lib.cell_of_heap hbox]; rfl
        have HW := Lib.hid (write_at HT.out.1 hbx at_ hbs HC.out)
        have HFl := Lib.hid (flush_on HT.out.1 hbx HC.out)
        clear hbx HT hbox hbs
        go_upto_region 7 with fail
        rw [← hX]
        clear hX a0 a1 a2 a3 hix
        by_cases hk : kd = 1
        · have ek : (kd == 1) = true := by simp [hk]
          have ek2 : (kd == 2) = false := by simp [hk]
          by_cases h128 : bb.length ≤ 128
          · have e128 : (bb.length : Int) ≤ 128 := by omega
            clear hk h128
            go_wp2_with fail
            refine HW.out.mono ?_
            rintro e y ⟨rfl, h, ht⟩
            have r0 := box_stays (Nat.le_refl _) q0 ht
            have HS := Lib.hid h
            clear h q0 q1 q2 ht
            go_wp2_with fail
            go_roundw
            case rel => exact ⟨j + 1, (t.write 16 at_ bb).1, by omega, by go_num, ⟨HS.out, by have := HDk.out.1; have := write_few (n := 16) t at_ bb; omega, write_left HDk.out.2 _ _⟩⟩
            case measure => simp [intOf]; omega
          · have e128 : ¬ (bb.length : Int) ≤ 128 := by omega
            clear hk h128
            go_wp2_with fail
            go_roundw
            case rel => exact ⟨j + 1, t, by omega, by go_num, ⟨HA.out, by have := HDk.out.1; omega, HDk.out.2⟩⟩
            case measure => simp [intOf]; omega
        · have ek : (kd == 1) = false := by simp [hk]
          by_cases hk2 : kd = 2
          · have ek2 : (kd == 2) = true := by simp [hk2]
            clear hk hk2
            go_wp2_with fail
            refine HFl.out.mono ?_
            rintro e y ⟨rfl, h, -⟩
            have HS := Lib.hid h
            clear h q0 q1 q2
            go_wp2_with fail
            go_roundw
            case rel => exact ⟨j + 1, t.flush, by omega, by go_num, ⟨HS.out, by have := HDk.out.1; have := flush_few t; omega, Tray.flush_left HDk.out.2⟩⟩
            case measure => simp [intOf]; omega
          · have ek2 : (kd == 2) = false := by simp [hk2]
            clear hk hk2
            go_wp2_with fail
            go_roundw
            case rel => exact ⟨j + 1, t, by omega, by go_num, ⟨HA.out, by have := HDk.out.1; omega, HDk.out.2⟩⟩
            case measure => simp [intOf]; omega
      · have hne : ¬ (j : Int) < (l.length : Int) := by omega
        clear hlt
        have hFw : IsFlags w (.slice ka ca.length qa) ca ∧ IsFlags w (.slice kb cb.length qb) cb := HF.out
        have HL := Lib.hid (lose_any HT.out.1.is _ ca (hFw.1.below HT.out.1.below) HC.out)
        clear hFw
        go_wp2_with fail
        refine HL.out.mono ?_
        rintro e y1 ⟨q1, rfl, -, hb1, hi1⟩
        have HL2 := Lib.hid (lose_any hi1 _ cb (HF.out.2.below (HT.out.1.below.trans (hb1.mono HT.out.1.below.size))) (by show (0 : Nat) ≤ _; omega))
        have HY1 := Lib.hid (And.intro hb1 hi1)
        clear hb1 hi1 HL
        go_wp2_with fail
        refine HL2.out.mono ?_
        rintro e y2 ⟨q2, rfl, -, hb2, hi2⟩
        have HFl := Lib.hid (flush_on HT.out.1 (HY1.out.1.trans (hb2.mono HY1.out.1.size)) HC.out)
        have HY2 := Lib.hid (And.intro hb2 hi2)
        rw [if_neg (by rw [HT.out.2.2]; decide)] at HFl
        clear hb2 hi2 HL2
        go_wp2_with fail
        refine HFl.out.mono ?_
        rintro e y3 ⟨rfl, h3, ht3⟩
        have HL3 := Lib.hid (lose_any h3.is _ cb (HF.out.2.below h3.below) (by have := flush_few t; have := HC.out; omega))
        have HY3 := Lib.hid (And.intro h3 ht3)
        clear h3 ht3 HFl
        go_wp2_with fail
        refine HL3.out.mono ?_
        rintro e y4 ⟨q4, rfl, -, hb4, hi4⟩
        have HALL : ∃ F1 F2 F3 F4, IsT y4 q1 16 (t.lose ca) F1 ∧ IsT y4 q2 16 (t.lose ca) F2 ∧ IsT y4 p 16 t.flush F3 ∧ IsT y4 q4 16 (t.flush.lose cb) F4 := by
          obtain ⟨hb1, hi1⟩ := HY1.out
          obtain ⟨hb2, hi2⟩ := HY2.out
          obtain ⟨h3, ht3⟩ := HY3.out
          have hz1 := hb1.size
          have hz2 := hb2.size
          rw [Tray.lose_twice] at hi2
          refine ⟨_, _, _, _, ((hi1.below hb2).turn ht3 fun k hk h => by have := hk.1; have := h.2; omega).below hb4, (hi2.turn ht3 fun k hk h => by have := hk.1; have := h.2; omega).below hb4, h3.is.below hb4, hi4⟩
        have HB := Lib.hid (show Below w.heap.size w y4 from HY3.out.1.below.trans (hb4.mono HY3.out.1.below.size))
        have HE := Lib.hid (show ∀ k, (t.flush.lose cb).read nul k = t.flush.read nul k from fun k => Tray.flush_lose nul (by rw [HT.out.2.2]; decide) cb k)
        obtain ⟨F1, F2, F3, F4, i1, i2, i3, i4⟩ := HALL
        have HI := Lib.hid (And.intro i1 (And.intro i2 (And.intro i3 i4)))
        clear hb4 hi4 i1 i2 i3 i4 HY1 HY2 HY3 HL3
        go_wp2_with fail
        go_loopw [90] (fun vi y => ∃ j : Nat, j ≤ 16 ∧ vi = .int .i64 (j : Int) ∧ Hid (Below w.heap.size w y ∧ IsT y q1 16 (t.lose ca) F1 ∧ IsT y q2 16 (t.lose ca) F2 ∧ IsT y p 16 t.flush F3 ∧ IsT y q4 16 (t.flush.lose cb) F4)) (fun vi _ => 16 - (intOf vi).toNat)
        case atStart => exact ⟨0, by omega, rfl, ⟨HB.out, HI.out⟩⟩
        case round =>
          obtain ⟨m, hm, rfl, HM⟩ := hrel
          clear HI HB
          by_cases hlt : m < 16
          · have hmI : (m : Int) < 16 := by omega
            have hm0 : (0 : Int) ≤ (m : Int) := by omega
            have H1 := Lib.hid (tread_any (m : Int) HM.out.2.1 hm0 hmI)
            have HLen := Lib.hid (And.intro (read_len HM.out.2.1 m) (read_len HM.out.2.2.2.1 m))
            clear hlt
            go_wp2_with fail
            refine H1.out.mono ?_
            rintro e z1 ⟨rfl, hx1, hb1⟩
            have H2 := Lib.hid (tread_any (m : Int) (HM.out.2.2.1.below hb1) hm0 hmI)
            have HB1 := Lib.hid (And.intro hx1 hb1)
            clear hx1 hb1 H1
            go_wp2_with fail
            refine H2.out.mono ?_
            rintro e z2 ⟨rfl, hx2, hb2⟩
            have h02 := HB1.out.2.trans (hb2.mono HB1.out.2.size)
            have H3 := Lib.hid (tread_any (m : Int) (HM.out.2.2.2.1.below h02) hm0 hmI)
            have HB2 := Lib.hid (And.intro hx2 (And.intro hb2 h02))
            clear hx2 hb2 h02 H2
            go_wp2_with fail
            refine H3.out.mono ?_
            rintro e z3 ⟨rfl, hx3, hb3⟩
            have h03 := HB2.out.2.2.trans (hb3.mono HB2.out.2.2.size)
            have H4 := Lib.hid (tread_any (m : Int) (HM.out.2.2.2.2.below h03) hm0 hmI)
            have HB3 := Lib.hid (And.intro hx3 (And.intro hb3 h03))
            clear hx3 hb3 h03 H3
            go_wp2_with fail
            refine H4.out.mono ?_
            rintro e z4 ⟨rfl, hx4, hb4⟩
            rw [HE.out] at hx4
            have g1 := HB1.out.1
            have g2 := HB2.out.1
            have g3 := HB3.out.1
            have k3 := (hb4.block _ (Array.getElem?_eq_some_iff.1 g3).1).trans g3
            have k2' := (HB3.out.2.1.block _ (Array.getElem?_eq_some_iff.1 g2).1).trans g2
            have k2 := (hb4.block _ (Array.getElem?_eq_some_iff.1 k2').1).trans k2'
            have k1'' := (HB2.out.2.1.block _ (Array.getElem?_eq_some_iff.1 g1).1).trans g1
            have k1' := (HB3.out.2.1.block _ (Array.getElem?_eq_some_iff.1 k1'').1).trans k1''
            have k1 := (hb4.block _ (Array.getElem?_eq_some_iff.1 k1').1).trans k1'
            have s1 := sec_str k1 HLen.out.1
            have s2 := sec_str k2 HLen.out.1
            have s3 := sec_str k3 HLen.out.2
            have s4 := sec_str hx4 HLen.out.2
            have HB4 := Lib.hid (HB3.out.2.2.trans (hb4.mono HB3.out.2.2.size))
            generalize str ((t.lose ca).read nul (m : Int)) = S1 at *
            generalize str (t.flush.read nul (m : Int)) = S2 at *
            clear hb4 hx4 g1 g2 g3 k1 k1' k1'' k2 k2' k3 HB1 HB2 HB3 H4
            go_wp2_with fail
            go_roundw
            case rel => exact ⟨m + 1, by omega, by go_num, ⟨HM.out.1.trans (HB4.out.mono HM.out.1.size), HM.out.2.1.below HB4.out, HM.out.2.2.1.below HB4.out, HM.out.2.2.2.1.below HB4.out, HM.out.2.2.2.2.below HB4.out⟩⟩
            case measure => simp [intOf]; omega
          · have hmI : ¬ (m : Int) < 16 := by omega
            go_wp2_with fail
            go_ret
            exact ⟨rfl, HM.out.1⟩
end LawT12T
end Ta
end Go.Proofs.Ytamomojjodknaaa
