/-
  Layer 10 (cask): the document's Unpack.
-/
import Derived.Test.YtopncohhagebbaaDoorCkDq
import Derived.Test.YtopncohhagebbaaDoorMgGr
namespace Go.Proofs.YtopncohhagebbaaDoor
open Go.RowKit
namespace Ck
open Knot (takeN takeT takeM value Turns)
open Tr (Nd none0 node4)
open Who (bs bs_list bs_size bs_self eq_of_list)
open Gr (Al Rl Ty NodeS nodeE allowE relE tyE alV relV tyV RelS TyS CfS tAl tRl tTy tCf elR elT IsCf Fit)
open Cn (ShortC)

/-- What the document's Unpack answers. -/
def DU (l : List UInt8) (w : World) (e : Ending) (x : World) : Prop :=
  Below w.heap.size w x ∧ ((unpack l = none ∧ e = .returned (.tuple #[.agg #[.slice none 0 0], .bool false])) ∨ ∃ T v, unpack l = some T ∧ e = .returned (.tuple #[v, .bool true]) ∧ CfS x w.heap.size T v)

set_option maxHeartbeats 16000000 in
set_option maxRecDepth 100000 in
theorem dunpack_any (bv : Value) (s : ByteArray) (w : World) (hcv : ∀ W, Below w.heap.size w W → (Go.convert 22 9 bv).run Tryd.prog W = .ok (.string s) W) (hs : s.size ≤ 4000) :
    Calls Tryd.prog 6 #[bv] w (DU s.data.toList w) := by
  obtain ⟨l, hl⟩ : ∃ l, l = s.data.toList := ⟨_, rfl⟩
  have hsz : l.length = s.size := by rw [hl, Lib.size_eq]
  obtain ⟨q, hq⟩ : ∃ q, q = (numS l 1048576).2 := ⟨_, rfl⟩
  have gq : q ≤ l.length := by rw [hq]; exact numS_le _ _
  have hm17 := numS_lt l 1048576
  have HH := Lib.hid (conf_head lim1 l hq)
  have HN1 := Lib.hid (fun W => dnums_any s 1048576 W (by omega))
  rw [← hl] at HN1 ⊢
  rw [← hq] at HN1
  generalize (numS l 1048576).1 = count at *
  have HLn := Lib.hid (And.intro hl hsz)
  clear hl hq
  have B0 := Lib.hid (C1.new w tCf (.slice none 0 0))
  have BL := Lib.hid (new1 w (.cells #[.slice none 0 0] tCf))
  have z1 : (w.alloc (.cells #[.slice none 0 0] tCf)).heap.size = w.heap.size + 1 := by simp
  have HZ1 := Lib.hid z1
  have hc1 := hcv _ BL.out
  unfold DU
  go_enter Tryd.func6, Tryd.ntmps6
  go_upto_region 1 with fail
  generalize w.alloc (.cells #[.slice none 0 0] tCf) = w1 at *
  clear z1 hcv
  have hn1 := C1.new w1 tCf (.slice none 0 0)
  have hnb := new1 w1 (.cells #[.slice none 0 0] tCf)
  rw [HZ1.out] at hn1
  have HB := Lib.hid hn1
  have HZ := Lib.hid (And.intro (B0.out.on hnb) (BL.out.trans (hnb.mono BL.out.size)))
  have hsz1 := HZ1.out
  clear hn1 hnb
  go_upto_region 3 with fail
  generalize w1.alloc (.cells #[.slice none 0 0] tCf) = w2 at *
  clear hc1 B0 BL hsz1
  go_wp2_with fail
  refine (HN1.out _).mono ?_
  rintro e x ⟨rfl, rfl⟩
  clear HN1
  by_cases h0 : q = 0
  · have HNo := Lib.hid (unpack_not (l := l) (by omega) fun T h => by rw [HH.out.trans (if_pos h0)] at h; cases h)
    have e1 : ((q : Int) == 0) = true := by simp; omega
    have B0 := HZ.out.1
    have k0 := HB.out.cells
    clear h0
    have f0 := B0.free
    have c0 := B0.cells
    have HF := Lib.hid (And.intro (HZ.out.2.setCell (p := ⟨w.heap.size, 0, none⟩) (Nat.le_refl _) (.slice none 0 0)) (show C1 (w.heap.size) tCf (.slice none 0 0) (w2.setCell ⟨w.heap.size, 0, none⟩ (.slice none 0 0)) from Lib.heap_setCell_same (i := 0) B0 (.slice none 0 0)))
    go_wp2_with fail
    generalize w2.setCell ⟨w.heap.size, 0, none⟩ (.slice none 0 0) = F at *
    have g0 := HF.out.2.cells
    exact bodyPost_ret (v := .tuple #[.agg #[.slice none 0 0], .bool false]) (by simp [results, Tryd.results6, go_sem, g0]) rfl ⟨HF.out.1, .inl ⟨HNo.out, rfl⟩⟩
  · have HQ := Lib.hid (HH.out.trans (if_neg h0))
    have e1 : ((q : Int) == 0) = false := by simp; omega
    have hb1 : 1 ≤ q := by omega
    clear h0 HH
    have HRow0 := Lib.hid (RowX.nil tyE (fun _ => False) w2 (w.heap.size + 2) tTy)
    go_upto_region 7 with fail
    clear e1
    go_loopw [8, 7] (fun i p wr => ∃ (j pos : Nat) (ts : List Ty) (cv : Value), i = .int .i64 j ∧ p = .int .i64 pos ∧ j ≤ count ∧ pos ≤ l.length ∧ j + 1 ≤ pos ∧ Hid (repsT (typeT 1048576 lim1) j (l.drop q) = some (ts, l.drop pos) ∧ ts.length = j ∧ Below w.heap.size w wr ∧ C1 (w.heap.size) tCf (.slice none 0 0) wr ∧ C1 (w.heap.size + 1) tCf cv wr ∧ RowX tyE (fun _ => False) wr (w.heap.size + 2) tTy cv ts)) (fun i _ _ => count - (intOf i).toNat)
    case atStart => exact ⟨0, q, [], _, rfl, rfl, by omega, by omega, by omega, Lib.hid ⟨rfl, rfl, HZ.out.2, HZ.out.1, HB.out, HRow0.out⟩⟩
    case round =>
      obtain ⟨j, pos, ts, cv, rfl, rfl, hj, hp, hjp, HJ⟩ := hrel
      by_cases hlt : j < count
      · obtain ⟨a, ha⟩ : ∃ a, a = (textS (l.drop pos) 16).2 := ⟨_, rfl⟩
        obtain ⟨b, hb⟩ : ∃ b, b = (numS (l.drop (pos + a)) 1048576).2 := ⟨_, rfl⟩
        have ga : pos + a ≤ l.length := by have := textS_le (l.drop pos) 16; rw [← ha, List.length_drop] at this; omega
        have gb : pos + a + b ≤ l.length := by have := numS_le (l.drop (pos + a)) 1048576; rw [← hb, List.length_drop] at this; omega
        have hr17 := numS_lt (l.drop (pos + a)) 1048576
        have hth : typeT 1048576 lim1 (l.drop pos) = if a = 0 ∨ b = 0 then none else
            match repsT (relT 1048576 lim1) (numS (l.drop (pos + a)) 1048576).1 (l.drop (pos + a + b)) with
            | none => none
            | some (xs, r) => some (⟨(textS (l.drop pos) 16).1, xs⟩, r) := by
          have h := type_head lim1 (l.drop pos) (a := a) (q := b) ha (by rw [List.drop_drop]; exact hb)
          simp only [List.drop_drop, ← Nat.add_assoc] at h
          rw [h]
          split
          · rfl
          · cases repsT (relT 1048576 lim1) (numS (l.drop (pos + a)) 1048576).1 (l.drop (pos + a + b)) <;> rfl
        have HTH := Lib.hid hth
        have hs1 := slice_from s (pos : Int) pos rfl (by omega)
        have hs2 := slice_from s ((pos : Int) + (a : Int)) (pos + a) (by omega) (by omega)
        have HN1 := Lib.hid (fun W => dtexts_any (bs (l.drop pos)) 16 W (by rw [bs_size, List.length_drop]; omega))
        have HN2 := Lib.hid (fun W => dnums_any (bs (l.drop (pos + a))) 1048576 W (by rw [bs_size, List.length_drop]; omega))
        rw [← HLn.out.1] at hs1 hs2
        rw [bs_list] at HN1 HN2
        rw [← ha] at HN1
        rw [← hb] at HN2
        generalize (textS (l.drop pos) 16).1 = name at *
        generalize (numS (l.drop (pos + a)) 1048576).1 = nrel at *
        generalize bs (l.drop pos) = u1 at *
        generalize bs (l.drop (pos + a)) = u2 at *
        clear ha hb hth
        go_wp2_with fail
        refine (HN1.out _).mono ?_
        rintro e x ⟨rfl, rfl⟩
        go_wp2_with fail
        refine (HN2.out _).mono ?_
        rintro e x ⟨rfl, rfl⟩
        clear HN1 HN2 hs1 hs2
        by_cases h0 : a = 0 ∨ b = 0
        · have HNo := Lib.hid (unpack_not (l := l) (by omega) fun T h => by
            rw [HQ.out, show count = j + 1 + (count - j - 1) by omega, reps_stop (count - j - 1) j HJ.out.1 (HTH.out.trans (if_pos h0))] at h
            cases h)
          have B0 := HJ.out.2.2.2.1
          have HBl := Lib.hid HJ.out.2.2.1
          rcases (show a = 0 ∨ (a ≠ 0 ∧ b = 0) by omega) with h1 | ⟨h1, h2⟩
          · have e1 : ((a : Int) == 0) = true := by simp; omega
            clear h0 h1
            have f0 := B0.free
            have c0 := B0.cells
            have HF := Lib.hid (And.intro (HBl.out.setCell (p := ⟨w.heap.size, 0, none⟩) (Nat.le_refl _) (.slice none 0 0)) (show C1 (w.heap.size) tCf (.slice none 0 0) (wr.setCell ⟨w.heap.size, 0, none⟩ (.slice none 0 0)) from Lib.heap_setCell_same (i := 0) B0 (.slice none 0 0)))
            go_wp2_with fail
            generalize wr.setCell ⟨w.heap.size, 0, none⟩ (.slice none 0 0) = F at *
            have g0 := HF.out.2.cells
            exact bodyPost_ret (v := .tuple #[.agg #[.slice none 0 0], .bool false]) (by simp [results, Tryd.results6, go_sem, g0]) rfl ⟨HF.out.1, .inl ⟨HNo.out, rfl⟩⟩
          · have e1 : ((a : Int) == 0) = false := by simp; omega
            have e2 : ((b : Int) == 0) = true := by simp; omega
            clear h0 h1 h2
            have f0 := B0.free
            have c0 := B0.cells
            have HF := Lib.hid (And.intro (HBl.out.setCell (p := ⟨w.heap.size, 0, none⟩) (Nat.le_refl _) (.slice none 0 0)) (show C1 (w.heap.size) tCf (.slice none 0 0) (wr.setCell ⟨w.heap.size, 0, none⟩ (.slice none 0 0)) from Lib.heap_setCell_same (i := 0) B0 (.slice none 0 0)))
            go_wp2_with fail
            generalize wr.setCell ⟨w.heap.size, 0, none⟩ (.slice none 0 0) = F at *
            have g0 := HF.out.2.cells
            exact bodyPost_ret (v := .tuple #[.agg #[.slice none 0 0], .bool false]) (by simp [results, Tryd.results6, go_sem, g0]) rfl ⟨HF.out.1, .inl ⟨HNo.out, rfl⟩⟩
        · have HTQ := Lib.hid (HTH.out.trans (if_neg h0))
          have e1 : ((a : Int) == 0) = false := by simp; omega
          have e2 : ((b : Int) == 0) = false := by simp; omega
          have hab : 1 ≤ a := by omega
          have hnb := new1 wr (.cells #[.string name, .slice none 0 0] tTy)
          have hlw := HJ.out.2.2.2.2.1.lt
          have HT0 := Lib.hid (And.intro (C2.new wr tTy (.string name) (.slice none 0 0)) (And.intro (HJ.out.2.2.1.trans (hnb.mono HJ.out.2.2.1.size)) (And.intro (HJ.out.2.2.2.1.on hnb) (And.intro (HJ.out.2.2.2.2.1.on hnb) (And.intro ((HJ.out.2.2.2.2.2.widen (X' := fun g => wr.heap.size ≤ g) fun g _ h1 h2 => by omega).below hnb) (show wr.heap.size < (wr.alloc (.cells #[.string name, .slice none 0 0] tTy)).heap.size by simp))))))
          have HCv := Lib.hid (And.intro (show w.heap.size + 2 ≤ wr.heap.size by omega) (And.intro (show ∀ k, cv.ownBlock = some k → k < wr.heap.size from fun k hk => (HJ.out.2.2.2.2.2.own_lt hk).2) (And.intro HJ.out.1 HJ.out.2.1)))
          clear h0 HTH hnb hlw HJ
          go_upto_region 16 with fail
          generalize wr.alloc (.cells #[.string name, .slice none 0 0] tTy) = Y0 at *
          generalize wr.heap.size = RT at *
          clear e1 e2
          have HRel0 := Lib.hid (RowX.nil relE (fun _ => False) Y0 (RT + 1) tRl)
          go_loopw [14, 7] (fun i p wr => ∃ (k p2 : Nat) (rs : List Rl) (rv : Value), i = .int .i64 k ∧ p = .int .i64 p2 ∧ k ≤ nrel ∧ p2 ≤ l.length ∧ pos + 1 ≤ p2 ∧ k ≤ p2 ∧ Hid (repsT (relT 1048576 lim1) k (l.drop (pos + a + b)) = some (rs, l.drop p2) ∧ rs.length = k ∧ Below w.heap.size w wr ∧ C1 (w.heap.size) tCf (.slice none 0 0) wr ∧ C1 (w.heap.size + 1) tCf cv wr ∧ C2 RT tTy (.string name) rv wr ∧ RowX tyE (fun g => RT ≤ g) wr (w.heap.size + 2) tTy cv ts ∧ RowX relE (fun _ => False) wr (RT + 1) tRl rv rs)) (fun i _ _ => nrel - (intOf i).toNat)
          case atStart => exact ⟨0, pos + a + b, [], _, rfl, by go_num, by omega, by omega, by omega, by omega, Lib.hid ⟨rfl, rfl, HT0.out.2.1, HT0.out.2.2.1, HT0.out.2.2.2.1, HT0.out.1, HT0.out.2.2.2.2.1, HRel0.out⟩⟩
          case round =>
            obtain ⟨k, p2, rs, rv, rfl, rfl, hk, hp2, hpp, hkp, HK⟩ := hrel
            by_cases hkt : k < nrel
            · have hs1 := slice_from s (p2 : Int) p2 rfl (by omega)
              rw [← HLn.out.1] at hs1
              have HD := Lib.hid (drel_any (bs (l.drop p2)) wr (by rw [bs_size, List.length_drop]; omega))
              rw [bs_list] at HD
              generalize bs (l.drop p2) = u1 at *
              go_wp2_with fail
              refine HD.out.mono ?_
              rintro e y ⟨hby, ⟨hno, rfl⟩ | ⟨r, z, m, v, hn, ⟨hk1, hk2, hk3⟩, rfl, hv⟩⟩
              · rw [show relV zR (.slice none 0 0) (.slice none 0 0) = .agg #[.string none0, .slice none 0 0, .int .i64 0, .string none0, .string none0, .slice none 0 0] from rfl]
                have HNo := Lib.hid (unpack_not (l := l) (by omega) fun T h => by
                  have h2 : typeT 1048576 lim1 (l.drop pos) = none := by
                    rw [HTQ.out, show nrel = k + 1 + (nrel - k - 1) by omega, reps_stop (nrel - k - 1) k HK.out.1 hno]
                  rw [HQ.out, show count = j + 1 + (count - j - 1) by omega, reps_stop (count - j - 1) j HCv.out.2.2.1 h2] at h
                  cases h)
                have hbx := hby.trans ((new1 y (.cells #[.string none0, .slice none 0 0, .int .i64 0, .string none0, .string none0, .slice none 0 0] tRl)).mono hby.size)
                have B0 := HK.out.2.2.2.1.on hbx
                have HBl := Lib.hid (HK.out.2.2.1.trans (hbx.mono HK.out.2.2.1.size))
                clear hno hby hbx hs1 HD
                go_upto_region 19 with fail
                generalize y.alloc (.cells #[.string none0, .slice none 0 0, .int .i64 0, .string none0, .string none0, .slice none 0 0] tRl) = Y at *
                have f0 := B0.free
                have c0 := B0.cells
                have HF := Lib.hid (And.intro (HBl.out.setCell (p := ⟨w.heap.size, 0, none⟩) (Nat.le_refl _) (.slice none 0 0)) (show C1 (w.heap.size) tCf (.slice none 0 0) (Y.setCell ⟨w.heap.size, 0, none⟩ (.slice none 0 0)) from Lib.heap_setCell_same (i := 0) B0 (.slice none 0 0)))
                go_wp2_with fail
                generalize Y.setCell ⟨w.heap.size, 0, none⟩ (.slice none 0 0) = F at *
                have g0 := HF.out.2.cells
                exact bodyPost_ret (v := .tuple #[.agg #[.slice none 0 0], .bool false]) (by simp [results, Tryd.results6, go_sem, g0]) rfl ⟨HF.out.1, .inl ⟨HNo.out, rfl⟩⟩
              · obtain ⟨vo, vc, no, nc, vB, ev, hv1, hv2, hv3⟩ := id hv
                subst ev
                have hbx := hby.trans ((new1 y (.cells #[.string r.name, .slice vo r.allow.length vc, .int .i64 r.expr.kind, .string r.expr.ta, .string r.expr.tb, .slice no r.expr.kids.length nc] tRl)).mono hby.size)
                have HX := Lib.hid (C6.new y tRl (.string r.name) (.slice vo r.allow.length vc) (.int .i64 r.expr.kind) (.string r.expr.ta) (.string r.expr.tb) (.slice no r.expr.kids.length nc))
                have hvE : relE.is (fun g => wr.heap.size ≤ g) y r (relV r (.slice vo r.allow.length vc) (.slice no r.expr.kids.length nc)) := hv
                have hV := Gr.Elt.below (E := relE) hvE (new1 y (.cells #[.string r.name, .slice vo r.allow.length vc, .int .i64 r.expr.kind, .string r.expr.ta, .string r.expr.tb, .slice no r.expr.kids.length nc] tRl))
                have HV := Lib.hid hV
                have HN := Lib.hid (show repsT (relT 1048576 lim1) (k + 1) (l.drop (pos + a + b)) = some (rs ++ [r], l.drop (p2 + m)) ∧ p2 + m ≤ l.length ∧ 1 ≤ m from by
                  rw [List.length_drop] at hk2
                  refine ⟨?_, by omega, hk1⟩
                  rw [reps_snoc k HK.out.1 hn, ← hk3, List.drop_drop])
                obtain ⟨ro, rc, rfl⟩ := HK.out.2.2.2.2.2.2.2.slice
                have HBs := Lib.hid (And.intro (HK.out.2.2.1.trans (hbx.mono HK.out.2.2.1.size)) (And.intro (HK.out.2.2.2.1.on hbx) (And.intro (HK.out.2.2.2.2.1.on hbx) (And.intro (HK.out.2.2.2.2.2.1.on hbx) (And.intro (HK.out.2.2.2.2.2.2.1.below hbx) (And.intro (HK.out.2.2.2.2.2.2.2.below hbx) hbx.size))))))
                have ek : ((m : Int) == 0) = false := by simp; omega
                have hpm := HN.out.2.1
                clear hs1 HD hn hk1 hk2 hk3 hv hv1 hv2 hv3 hvE hV hby hbx
                go_upto_region 21 with fail
                generalize y.alloc (.cells #[.string r.name, .slice vo r.allow.length vc, .int .i64 r.expr.kind, .string r.expr.ta, .string r.expr.tb, .slice no r.expr.kids.length nc] tRl) = Y at *
                generalize y.heap.size = RX at *
                have al := new1 Y (.cells #[.string r.name, .slice vo r.allow.length vc, .int .i64 r.expr.kind, .string r.expr.ta, .string r.expr.tb, .slice no r.expr.kids.length nc] tRl)
                have hlw := HK.out.2.2.2.2.2.1.lt
                have hue : relE.is (fun g => wr.heap.size ≤ g ∧ ¬ False) (Y.alloc (.cells #[.string r.name, .slice vo r.allow.length vc, .int .i64 r.expr.kind, .string r.expr.ta, .string r.expr.tb, .slice no r.expr.kids.length nc] tRl)) r (relV r (.slice vo r.allow.length vc) (.slice no r.expr.kids.length nc)) := relE.turn HV.out (Turns.of_below (F := fun _ => False) al) (fun _ _ _ h => h) fun g hg _ => ⟨hg, fun h => h⟩
                have HA := Lib.hid (And.intro (HBs.out.2.2.2.2.2.1.below al) (And.intro (heap_alloc_new Y (.cells #[.string r.name, .slice vo r.allow.length vc, .int .i64 r.expr.kind, .string r.expr.ta, .string r.expr.tb, .slice no r.expr.kids.length nc] tRl)) (And.intro hue (And.intro (show RT + 1 ≤ wr.heap.size by omega) (And.intro (show ∀ k, Value.ownBlock (.slice ro rs.length rc) = some k → k < wr.heap.size from fun k hk => (HK.out.2.2.2.2.2.2.2.own_lt hk).2) (And.intro (show RT + 1 ≤ (Y.alloc (.cells #[.string r.name, .slice vo r.allow.length vc, .int .i64 r.expr.kind, .string r.expr.ta, .string r.expr.tb, .slice no r.expr.kids.length nc] tRl)).heap.size from by have := HBs.out.2.2.2.2.2.2; have := al.size; omega) (And.intro (show rs.length ≤ 100000 by have := HK.out.2.1; omega) (And.intro (HBs.out.2.2.2.1.on al) (And.intro (HBs.out.2.2.1.on al) (And.intro (HBs.out.2.1.on al) (And.intro (HBs.out.2.2.2.2.1.below al) (HBs.out.1.trans (al.mono HBs.out.1.size)))))))))))))
                have HRT := Lib.hid HCv.out.1
                have hrt2 := HCv.out.1
                obtain ⟨ti, tz, tb, TE, hT⟩ := elR
                have HTE := Lib.hid (And.intro TE hT)
                obtain ⟨x0, x1, x2, x3, x4, x5⟩ := HX.out.cells
                obtain ⟨-, k1⟩ := HBs.out.2.2.2.1.cells
                have HKl := Lib.hid HK.out.2.1
                clear al hlw hue TE hT ek HBs HV HK
                go_wp2_with (at_builtin; refine walk_add (E := relE) (X := fun _ => False) (a := r) (u := relV r (.slice vo r.allow.length vc) (.slice no r.expr.kids.length nc)) HTE.out.1 HTE.out.2 rfl _ _ rfl rfl rfl HA.out.1 HA.out.2.1 HA.out.2.2.1 HA.out.2.2.2.1 HA.out.2.2.2.2.1 HA.out.2.2.2.2.2.1 (fun _ _ h => h) HA.out.2.2.2.2.2.2.1 ?_)
                intro v' y' hrow' htn
                obtain ⟨ro2, rc2, ev⟩ := hrow'.slice
                rw [List.length_append, List.length_singleton] at ev
                subst ev
                have hne : ∀ g, g < RT + 1 → ¬ Value.ownBlock (.slice ro rs.length rc) = some g := fun g hg h => by
                  have := (HA.out.1.own_lt h).1
                  omega
                have BT := HA.out.2.2.2.2.2.2.2.1.turn htn (hne _ (by omega))
                have B1 := HA.out.2.2.2.2.2.2.2.2.1.turn htn (hne _ (by omega))
                have B0 := HA.out.2.2.2.2.2.2.2.2.2.1.turn htn (hne _ (by omega))
                have hbl := HA.out.2.2.2.2.2.2.2.2.2.2.2.trans (htn.below HA.out.2.2.2.2.2.2.2.2.2.2.2.size fun g hg => by have := (HA.out.1.own_lt hg).1; omega)
                have hrc := HA.out.2.2.2.2.2.2.2.2.2.2.1.turn htn fun g h1 h2 h3 => by have := (HA.out.1.own_lt h3).1; omega
                have t1 : Turns (fun g => g = RT) y' (y'.setCell ⟨RT, 1, none⟩ (.slice ro2 (rs.length + 1) rc2)) := (Turns.refl (fun g => g = RT) y').setCell (p := ⟨RT, 1, none⟩) rfl _
                have HF := Lib.hid (And.intro (hbl.trans (t1.below hbl.size fun g hg => by omega)) (And.intro (B0.turn t1 (by omega)) (And.intro (B1.turn t1 (by omega)) (And.intro (show C2 RT tTy (.string name) (.slice ro2 (rs.length + 1) rc2) (y'.setCell ⟨RT, 1, none⟩ (.slice ro2 (rs.length + 1) rc2)) from Lib.heap_setCell_same (i := 1) BT _) (And.intro (hrc.turn t1 fun g h1 _ h2 => by omega) (hrow'.turn t1 fun g h1 _ h2 => by omega))))))
                clear k1
                obtain ⟨-, k1⟩ := BT.cells
                obtain ⟨-, f1⟩ := BT.free
                clear hrow' htn hne BT B1 B0 hbl hrc t1 HA HTE HX x0 x1 x2 x3 x4 x5
                go_wp2_with fail
                clear k1 f1
                generalize y'.setCell ⟨RT, 1, none⟩ (.slice ro2 (rs.length + 1) rc2) = F at *
                go_roundw
                case rel => exact ⟨k + 1, p2 + m, rs ++ [r], _, by go_num, by go_num, by omega, HN.out.2.1, by omega, by have := HN.out.2.2; omega, Lib.hid ⟨HN.out.1, by rw [List.length_append, HKl.out]; rfl, HF.out.1, HF.out.2.1, HF.out.2.2.1, HF.out.2.2.2.1, HF.out.2.2.2.2.1, HF.out.2.2.2.2.2⟩⟩
                case measure => simp [intOf]; omega
            · have hk' : k = nrel := by omega
              subst hk'
              obtain ⟨ro, rc, rfl⟩ := HK.out.2.2.2.2.2.2.2.slice
              have hct := HK.out.2.2.2.2.2.2.1
              obtain ⟨co, cc, rfl⟩ := hct.slice
              have HN := Lib.hid (show repsT (typeT 1048576 lim1) (j + 1) (l.drop q) = some (ts ++ [⟨name, rs⟩], l.drop p2) from by
                refine reps_snoc j HCv.out.2.2.1 ?_
                rw [HTQ.out, HK.out.1])
              have al := new1 wr (.cells #[.string name, .slice ro rs.length rc] tTy)
              have hlw := HK.out.2.2.2.2.2.1.lt
              have hty : TyS (fun g => RT ≤ g) (wr.alloc (.cells #[.string name, .slice ro rs.length rc] tTy)) ⟨name, rs⟩ (tyV ⟨name, rs⟩ (.slice ro rs.length rc)) := Gr.ty_is HK.out.2.2.2.2.2.2.2.rows (Turns.of_below al)
              have hue : tyE.is (fun g => RT ≤ g ∧ ¬ False) (wr.alloc (.cells #[.string name, .slice ro rs.length rc] tTy)) ⟨name, rs⟩ (tyV ⟨name, rs⟩ (.slice ro rs.length rc)) := by
                refine tyE.turn (show tyE.is (fun g => RT ≤ g) _ _ _ from hty) (Turns.refl (fun _ => False) _) (fun _ _ _ h => h) fun g hg _ => ?_
                exact ⟨hg, fun h => h⟩
              have hrt := HCv.out.1
              have HA := Lib.hid (And.intro ((hct.widen (X' := fun _ => False) fun g _ _ h => h.elim).below al) (And.intro (heap_alloc_new wr (.cells #[.string name, .slice ro rs.length rc] tTy)) (And.intro hue (And.intro hrt (And.intro HCv.out.2.1 (And.intro (show w.heap.size + 2 ≤ (wr.alloc (.cells #[.string name, .slice ro rs.length rc] tTy)).heap.size from by have := al.size; omega) (And.intro (show ts.length ≤ 100000 by have := HCv.out.2.2.2; omega) (And.intro (HK.out.2.2.2.2.1.on al) (And.intro (HK.out.2.2.2.1.on al) (HK.out.2.2.1.trans (al.mono HK.out.2.2.1.size)))))))))))
              obtain ⟨ti, tz, tb, TE, hT⟩ := elT
              have HTE := Lib.hid (And.intro TE hT)
              obtain ⟨x0, x1⟩ := HK.out.2.2.2.2.2.1.cells
              have k0 := HK.out.2.2.2.2.1.cells
              clear al hlw hty hue TE hT hct HK
              go_wp2_with (at_builtin; refine walk_add (E := tyE) (X := fun _ => False) (a := ⟨name, rs⟩) (u := tyV ⟨name, rs⟩ (.slice ro rs.length rc)) HTE.out.1 HTE.out.2 rfl _ _ rfl rfl rfl HA.out.1 HA.out.2.1 HA.out.2.2.1 HA.out.2.2.2.1 HA.out.2.2.2.2.1 HA.out.2.2.2.2.2.1 (fun _ _ h => h) HA.out.2.2.2.2.2.2.1 ?_)
              intro v' y' hrow' htn
              obtain ⟨ro2, rc2, ev⟩ := hrow'.slice
              rw [List.length_append, List.length_singleton] at ev
              subst ev
              have hne : ∀ g, g < w.heap.size + 2 → ¬ Value.ownBlock (.slice co ts.length cc) = some g := fun g hg h => by
                have := (HA.out.1.own_lt h).1
                omega
              have B1 := HA.out.2.2.2.2.2.2.2.1.turn htn (hne _ (by omega))
              have B0 := HA.out.2.2.2.2.2.2.2.2.1.turn htn (hne _ (by omega))
              have hbl := HA.out.2.2.2.2.2.2.2.2.2.trans (htn.below HA.out.2.2.2.2.2.2.2.2.2.size fun g hg => by have := (HA.out.1.own_lt hg).1; omega)
              have t1 : Turns (fun g => g = w.heap.size + 1) y' (y'.setCell ⟨w.heap.size + 1, 0, none⟩ (.slice ro2 (ts.length + 1) rc2)) := (Turns.refl (fun g => g = w.heap.size + 1) y').setCell (p := ⟨w.heap.size + 1, 0, none⟩) rfl _
              have HF := Lib.hid (And.intro (hbl.trans (t1.below hbl.size fun g hg => by omega)) (And.intro (B0.turn t1 (by omega)) (And.intro (show C1 (w.heap.size + 1) tCf (.slice ro2 (ts.length + 1) rc2) (y'.setCell ⟨w.heap.size + 1, 0, none⟩ (.slice ro2 (ts.length + 1) rc2)) from Lib.heap_setCell_same (i := 0) B1 _) (hrow'.turn t1 fun g h1 _ h2 => by omega))))
              clear k0
              have k0 := B1.cells
              have f0 := B1.free
              clear hrow' htn hne B1 B0 hbl t1 HA HTE x0 x1
              go_wp2_with fail
              clear k0 f0
              generalize y'.setCell ⟨w.heap.size + 1, 0, none⟩ (.slice ro2 (ts.length + 1) rc2) = F at *
              go_roundw
              case rel => exact ⟨j + 1, p2, ts ++ [⟨name, rs⟩], _, by go_num, rfl, by omega, hp2, by omega, Lib.hid ⟨HN.out, by rw [List.length_append, HCv.out.2.2.2]; rfl, HF.out.1, HF.out.2.1, HF.out.2.2.1, HF.out.2.2.2⟩⟩
              case measure => simp [intOf]; omega
      · have hj' : j = count := by omega
        subst hj'
        obtain ⟨co, cc, rfl⟩ := HJ.out.2.2.2.2.2.slice
        have HCf := Lib.hid (HQ.out.trans HJ.out.1)
        by_cases hend : pos = l.length
        · have hsz2 : (s.size : Int) = (pos : Int) := by omega
          have hnil : l.drop pos = [] := by rw [hend]; exact List.drop_length ..
          have HT := Lib.hid (show confT 1048576 lim1 l = some (ts, []) by rw [HCf.out, hnil])
          have hby : l = confB ts := by
            have := conf_sound 1048576 lim1 _ _ _ HT.out
            rwa [List.append_nil] at this
          obtain ⟨hsh, hfit⟩ := conf_small (T := ts) (n := l.length) (by rw [← hby]; omega) (by omega)
          have hcf : CfS wr (w.heap.size + 2) ts (.agg #[.slice co ts.length cc]) := ⟨co, cc, rfl, HJ.out.2.2.2.2.2.rows⟩
          have HG := Lib.hid (Cn.rGood_any ts _ wr hcf.is hsh hfit)
          have HU := Lib.hid (And.intro (unpack_not (l := l) (by omega)) (fun hg => unpack_yes (T := ts) (by omega) HT.out hg))
          have k0 := HJ.out.2.2.2.2.1.cells
          clear hnil hby hsh hfit hend
          cases hg : Cn.gC ts with
          | false =>
            rw [hg] at HG
            have HNo := Lib.hid (HU.out.1 fun T h => by
              rw [HT.out] at h
              obtain ⟨rfl, -⟩ := Prod.mk.inj (Option.some.inj h)
              exact hg)
            clear hg hcf
            go_wp2_with fail
            refine HG.out.mono ?_
            rintro e y ⟨rfl, hy⟩
            have B0 := HJ.out.2.2.2.1.on hy
            have HBl := Lib.hid (HJ.out.2.2.1.trans (hy.mono HJ.out.2.2.1.size))
            clear hy k0
            have f0 := B0.free
            have c0 := B0.cells
            have HF := Lib.hid (And.intro (HBl.out.setCell (p := ⟨w.heap.size, 0, none⟩) (Nat.le_refl _) (.slice none 0 0)) (show C1 (w.heap.size) tCf (.slice none 0 0) (y.setCell ⟨w.heap.size, 0, none⟩ (.slice none 0 0)) from Lib.heap_setCell_same (i := 0) B0 (.slice none 0 0)))
            go_wp2_with fail
            generalize y.setCell ⟨w.heap.size, 0, none⟩ (.slice none 0 0) = F at *
            have g0 := HF.out.2.cells
            exact bodyPost_ret (v := .tuple #[.agg #[.slice none 0 0], .bool false]) (by simp [results, Tryd.results6, go_sem, g0]) rfl ⟨HF.out.1, .inl ⟨HNo.out, rfl⟩⟩
          | true =>
            rw [hg] at HG
            have HYes := Lib.hid (HU.out.2 hg)
            clear hg hcf
            go_wp2_with fail
            refine HG.out.mono ?_
            rintro e y ⟨rfl, hy⟩
            have B0 := HJ.out.2.2.2.1.on hy
            have B1 := HJ.out.2.2.2.2.1.on hy
            have hbl := HJ.out.2.2.1.trans (hy.mono HJ.out.2.2.1.size)
            have hrow := HJ.out.2.2.2.2.2.below hy
            have t1 : Turns (fun g => g = w.heap.size) y (y.setCell ⟨w.heap.size, 0, none⟩ (.slice co ts.length cc)) := (Turns.refl (fun g => g = w.heap.size) y).setCell (p := ⟨w.heap.size, 0, none⟩) rfl _
            have HF := Lib.hid (And.intro (hbl.trans (t1.below hbl.size fun g hg => by omega)) (And.intro (show C1 (w.heap.size) tCf (.slice co ts.length cc) (y.setCell ⟨w.heap.size, 0, none⟩ (.slice co ts.length cc)) from Lib.heap_setCell_same (i := 0) B0 _) (hrow.turn t1 fun g h1 _ h2 => by omega)))
            clear k0
            have k0 := B1.cells
            have c0 := B0.cells
            have f0 := B0.free
            clear hy B0 B1 hbl hrow t1
            go_wp2_with fail
            generalize y.setCell ⟨w.heap.size, 0, none⟩ (.slice co ts.length cc) = F at *
            have g0 := HF.out.2.1.cells
            exact bodyPost_ret (v := .tuple #[.agg #[.slice co ts.length cc], .bool true]) (by simp [results, Tryd.results6, go_sem, g0]) rfl ⟨HF.out.1, .inr ⟨ts, _, HYes.out, rfl, co, cc, rfl, HF.out.2.2.rows.mono (by omega)⟩⟩
        · have hne : ((pos : Int) != (s.size : Int)) = true := by simp; omega
          have HNo := Lib.hid (unpack_not (l := l) (by omega) fun T h => by
            rw [HCf.out] at h
            have h2 := (Prod.mk.inj (Option.some.inj h)).2
            have := congrArg List.length h2
            rw [List.length_drop, List.length_nil] at this
            omega)
          have B0 := HJ.out.2.2.2.1
          have HBl := Lib.hid HJ.out.2.2.1
          clear hend
          have f0 := B0.free
          have c0 := B0.cells
          have HF := Lib.hid (And.intro (HBl.out.setCell (p := ⟨w.heap.size, 0, none⟩) (Nat.le_refl _) (.slice none 0 0)) (show C1 (w.heap.size) tCf (.slice none 0 0) (wr.setCell ⟨w.heap.size, 0, none⟩ (.slice none 0 0)) from Lib.heap_setCell_same (i := 0) B0 (.slice none 0 0)))
          go_wp2_with fail
          generalize wr.setCell ⟨w.heap.size, 0, none⟩ (.slice none 0 0) = F at *
          have g0 := HF.out.2.cells
          exact bodyPost_ret (v := .tuple #[.agg #[.slice none 0 0], .bool false]) (by simp [results, Tryd.results6, go_sem, g0]) rfl ⟨HF.out.1, .inl ⟨HNo.out, rfl⟩⟩
end Ck
end Go.Proofs.YtopncohhagebbaaDoor
