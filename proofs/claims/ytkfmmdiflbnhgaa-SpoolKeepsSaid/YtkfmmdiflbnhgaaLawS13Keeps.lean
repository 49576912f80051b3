/-
  SpoolKeeps, walked: wherever the power goes, what is found again is what was appended with OK since the head, and perhaps, whole, the one that was being appended.
-/
import Derived.Test.YtkfmmdiflbnhgaaSpKp
import Derived.Deep.CutBlock
namespace Go.Proofs.Ytkfmmdiflbnhgaa
set_option maxRecDepth 100000
open Go.RowKit
open Knot (Turns NewRow)
open Ta (IsBytes IsFlags IsActs Stay sec nul ptr IsT Tray Made Grow)
namespace Sp
theorem pow_k (z : Int) : 0 ≤ wrap64 ((IntKind.u64.wrap z).tmod 200) ∧ wrap64 ((IntKind.u64.wrap z).tmod 200) ≤ 199 := by
  have h : 0 ≤ IntKind.u64.wrap z := by unfold IntKind.wrap; simp [IntKind.signed, IntKind.bits]; omega
  rw [Int.tmod_eq_emod_of_nonneg h]
  generalize IntKind.u64.wrap z = u at *
  unfold wrap64
  omega
namespace LawS13Keeps
set_option maxHeartbeats 32000000 in
set_option maxRecDepth 100000 in
theorem walk (z : Int) (l : List Ta.Act) (v : Value) (w : World) (hz : (Lit.int .u8 z).wf = true) (hv : IsActs w v l) :
    Calls Try.prog 5 #[.int .u8 z, v] w fun e x => e = .returned (.bool true) ∧ Below w.heap.size w x := by
  have h1 : 0 ≤ z ∧ z ≤ 255 := by simp [Lit.wf, IntKind.min, IntKind.max, IntKind.signed, IntKind.bits] at hz; exact hz
  obtain ⟨c, rfl⟩ : ∃ c : Nat, z = (c : Int) := ⟨z.toNat, by omega⟩
  have HV := Lib.hid hv
  obtain ⟨ao, cap, rfl, hlen⟩ := acts_len hv
  have hp40 : (40 : Int) = ((40 : Nat) : Int) := rfl
  have HN := Lib.hid (Ta.new_any 40 (by omega) w)
  clear hp40 hz hv
  go_enter Try.func5, Try.ntmps5
  go_wp2_with fail
  refine HN.out.mono ?_
  rintro e x1 ⟨p, rfl, hb, hi⟩
  have H1 := Lib.hid (And.intro hb hi)
  clear hb hi HN
  have h00 : ((0 : Int) != 0) = false := rfl
  go_wp2_with fail
  refine (awake_any x1).mono ?_
  rintro e x2 ⟨rfl, hb⟩
  have H2 := Lib.hid (And.intro (H1.out.1.trans (hb.mono H1.out.1.size)) (H1.out.2.below hb))
  have HFw := Lib.hid (few_any _ l (HV.out.below H2.out.1))
  clear hb
  go_wp2_with fail
  refine HFw.out.mono ?_
  rintro e x3 ⟨rfl, hb⟩
  have H3 := Lib.hid (And.intro (H2.out.1.trans (hb.mono H2.out.1.size)) (H2.out.2.below hb))
  clear hb HFw H2
  by_cases hfew : Few l
  · have HFew := Lib.hid hfew
    have hdf : decide (Few l) = true := decide_eq_true hfew
    rw [hdf]
    clear hfew hdf
    have hck : c % 30 < 30 := Nat.mod_lt _ (by omega)
    go_upto_region 5 with fail
    have hK : 2 + (c : Int) % 30 = ((2 + c % 30 : Nat) : Int) := by omega
    rw [hK]
    clear hK
    have hk2 : 2 ≤ 2 + c % 30 ∧ 2 + c % 30 ≤ 31 := by omega
    generalize 2 + c % 30 = K at *
    clear hck h1
    obtain ⟨x4, hx4⟩ : ∃ X, X = x3.alloc (.cells #[.int .i64 3, .int .i64 (K : Int)] tRg) := ⟨_, rfl⟩
    rw [← hx4]
    have hal : Below x3.heap.size x3 x4 := by rw [hx4]; exact (Below.refl _ _).alloc (Nat.le_refl _) _
    have hrb : x4.heap[x3.heap.size]? = some (.cells #[.int .i64 3, .int .i64 (K : Int)] tRg (0, 0)) := by rw [hx4]; exact heap_alloc_new x3 _
    have HO := Lib.hid (sys_open (s := ⟨3, K, 0, 0, 1, false⟩) (H3.out.1.trans (hal.mono H3.out.1.size)) (H3.out.2.below hal) (fun k hk => hk.1) rfl rfl (by refine ⟨⟨?_, ?_, ?_, ?_⟩, ?_, ?_, ?_, ?_⟩ <;> simp <;> omega))
    rw [found_fresh] at HO
    simp only at HO
    have r0 : x4.cell? ⟨x3.heap.size, 0, none⟩ = some (.int .i64 3) := by rw [Lib.cell_of_heap hrb]; rfl
    have r1 : x4.cell? ⟨x3.heap.size, 1, none⟩ = some (.int .i64 (K : Int)) := by rw [Lib.cell_of_heap hrb]; rfl
    have HRb := Lib.hid (And.intro hrb (show w.heap.size ≤ x3.heap.size ∧ (∀ k, Made w x1 k → k < x3.heap.size) from ⟨H3.out.1.size, fun k hk => H3.out.2.low k hk⟩))
    clear hal hrb hx4 H1
    generalize x3.heap.size = R at *
    go_wp2_with fail
    refine HO.out.mono ?_
    rintro e x5 ⟨q, lv, rfl, hx5, hq, hsys, hr⟩
    obtain ⟨ra, rc, rfl⟩ := hr.slice
    have hlv := inv_fresh K (by omega) (rd := rdS Tray.fresh ⟨3, K, 0, 0, 1, false⟩) fun k => rfl
    have HK := Lib.hid (show Kp w x5 p q R K Tray.fresh ⟨3, K, 0, 0, 1, false⟩ (Made w x1) (.slice none 0 0) [] 0 from by
      have hR := (Array.getElem?_eq_some_iff.1 HRb.out.1).1
      exact ⟨hsys, (hx5.block R hR).trans HRb.out.1, ⟨fun h => by have := HRb.out.2.2 R h; omega, by omega, HRb.out.2.1⟩, ⟨rfl, rfl, Nat.le_refl _, Nat.le_refl _⟩, Nat.zero_le _, recs_nil _ _ _, fun k hk => (by simp [Value.ownBlock] at hk), Nat.le_refl _⟩)
    have HLv := Lib.hid (show Live Tray.fresh ⟨3, K, 0, 0, 1, false⟩ [] from ⟨rfl, rfl, hlv.1, hlv.2, by show 0 < K; omega, by show K ≤ 4096; omega⟩)
    clear hx5 hq hsys hr hlv HO r0 r1 H3 HRb
    go_wp2_with fail
    go_loopw [5, 8, 11, 12, 13, 14, 64] (fun vt vs vu vy vh ve vi x => ∃ (j p q : Nat) (t : Tray (List UInt8)) (s : S) (F : Nat → Prop) (r : List (List UInt8 × Nat)), j ≤ l.length ∧ vt = ptr p ∧ vs = ptr q ∧ vh = .int .i64 (s.head : Int) ∧ ve = .int .i64 (s.epoch : Int) ∧ vi = .int .i64 (j : Int) ∧ Hid (Kp w x p q R K t s F vu r j ∧ Hang x vy t s r)) (fun _ _ _ _ _ _ i _ => l.length - (intOf i).toNat)
    case atStart => exact ⟨0, p, q, _, _, _, [], Nat.zero_le _, rfl, rfl, rfl, rfl, rfl, HK.out, .inl ⟨rfl, HLv.out⟩⟩
    case round =>
      clear HK HLv
      obtain ⟨j, p', q', t, s, F, r, hj, rfl, rfl, rfl, rfl, rfl, HX⟩ := hrel
      by_cases hlt : j < l.length
      · obtain ⟨g, o, hix, ob, oc, cb, cc, a0, a1, a2, a3, hbs, hfs⟩ := act_at HV.out HX.out.1.sys.below hlt
        have hfl := HFew.out.2 _ (List.getElem_mem hlt)
        have hj40 : j < 40 := by have := HFew.out.1; omega
        generalize l[j] = ac at *
        obtain ⟨kd, at_, bb, fc⟩ := ac
        simp only at a0 a1 a2 a3 hbs hfs hfl
        obtain ⟨X, hX⟩ : ∃ X, X = wr.alloc (.cells #[.int .i64 kd, .int .i64 at_, .slice ob bb.length cb, .slice oc fc.length cc] tAc) := ⟨_, rfl⟩
        have hbx : Below wr.heap.size wr X := by rw [hX]; exact (Below.refl _ _).alloc (Nat.le_refl _) _
        have hbox : X.heap[wr.heap.size]? = some (.cells #[.int .i64 kd, .int .i64 at_, .slice ob bb.length cb, .slice oc fc.length cc] tAc (0, 0)) := by rw [hX]; exact heap_alloc_new wr _
        have HA := Lib.hid (And.intro hbox (And.intro hbs (And.intro hfs (And.intro hfl (show ¬ F wr.heap.size ∧ wr.heap.size ≠ q' from ⟨fun hk => by have := HX.out.1.sys.tray.low _ hk; omega, by have := HX.out.1.ltq; omega⟩)))))
        have HX2 := Lib.hid (And.intro (HX.out.1.on hbx) (HX.out.2.on hbx))
        clear hbx hbox hbs hfs hfl
        go_upto_region 13 with fail
        rw [← hX]
        clear hX a0 a1 a2 a3 hix HX
        generalize wr.heap.size = A at *
        obtain ⟨q0, q1, q2, q3⟩ : X.cell? ⟨A, 0, none⟩ = some (.int .i64 kd) ∧ X.cell? ⟨A, 1, none⟩ = some (.int .i64 at_) ∧ X.cell? ⟨A, 2, none⟩ = some (.slice ob bb.length cb) ∧ X.cell? ⟨A, 3, none⟩ = some (.slice oc fc.length cc) := by
          refine ⟨?_, ?_, ?_, ?_⟩ <;> (rw [Lib.cell_of_heap HA.out.1]; rfl)
        go_upto_region 14 with fail
        obtain ⟨HX, hty⟩ := And.intro (Lib.hid HX2.out.1) HX2.out.2
        clear HX2
        by_cases hk1 : kd = 1
        · have ek1 : (kd == 1) = true := by simp [hk1]
          rcases hty with ⟨rfl, hlv⟩ | ⟨b, ba, bc, rfl, hib, htn⟩
          · have HLv := Lib.hid hlv
            have hbi : ∀ y, Below w.heap.size w y → IsBytes y (.slice ob bb.length cb) bb := fun y hy => HA.out.2.1.below hy
            have HS := Lib.hid (HX.out.sys.append (.slice ob bb.length cb) bb (fun y hy => hbi y (HX.out.old (hy.mono fun _ _ h => .inl h))) (by have := HA.out.2.2.2.1; omega) (by have := HX.out.few; omega) (by have := HX.out.geo.2.2.2; omega))
            clear hlv hk1 hbi
            go_wp2_with fail
            refine HS.out.mono ?_
            rintro e y ⟨rfl, F2, hs2, hF2, hty⟩
            have hbo := HX.out.old hty
            have hcc := append_cache s bb t
            have hsame := append_same s bb t
            have hpp : parts bb.length ≤ 6 := by have := HA.out.2.2.2.1; unfold parts; omega
            have hk2 := HX.out.next hs2 hF2 hty ⟨hsame.1, hsame.2.1, hsame.2.2.2.1, by omega⟩ (by rw [HLv.out.cache] at hcc; simp only [List.length_nil] at hcc; omega)
            have hbA : y.heap[A]? = some (.cells #[.int .i64 kd, .int .i64 at_, .slice ob bb.length cb, .slice oc fc.length cc] tAc (0, 0)) := hty.heap HA.out.1 fun hh => hh.elim HA.out.2.2.2.2.1 HA.out.2.2.2.2.2
            have y2 : y.cell? ⟨A, 2, none⟩ = some (.slice ob bb.length cb) := by rw [Lib.cell_of_heap hbA]; rfl
            have hcs := HLv.out.cases (b := bb) (by have := HA.out.2.2.2.1; omega) (fun k => rdS_len hs2.tray s k)
            clear hs2 hF2 hty hbA hcc hsame q0 q1 q2 q3 HS
            rcases hcs with e | ⟨e, hl2⟩ | ⟨e, hl2⟩
            · rw [e] at hk2 ⊢
              have HK2 := Lib.hid hk2
              clear hk2 e hbo hpp y2
              go_wp2_with fail
              go_roundw
              case rel => exact ⟨j + 1, p', q', t, s, F2, r, by omega, rfl, rfl, rfl, rfl, by go_num, HK2.out, .inl ⟨rfl, HLv.out⟩⟩
              case measure => simp [intOf]; omega
            · rw [e] at hk2 ⊢
              generalize (append s bb t).1 = t2 at *
              have HL2 := Lib.hid hl2
              have hal : Below y.heap.size y (y.alloc (.cells #[.slice ob bb.length cb] tBs)) := (Below.refl _ _).alloc (Nat.le_refl _) _
              have hkz := hk2.on hal
              have hcell : (y.alloc (.cells #[.slice ob bb.length cb] tBs)).cell? ⟨y.heap.size, 0, none⟩ = some (.slice ob bb.length cb) := by rw [Lib.cell_of_heap (heap_alloc_new y _)]; rfl
              have HW := Lib.hid (And.intro hkz (And.intro hcell (And.intro (hkz.stay HA.out.2.1) (show (r.map Prod.fst).length ≤ 1000000 by have := HX.out.num; rw [List.length_map]; omega))))
              clear hk2 hkz hcell hal e hl2 hbo hpp
              go_wp2_with (at_builtin; refine walk_recs rfl _ _ rfl rfl rfl HW.out.1.rows HW.out.1.sys.below.size HW.out.2.1 HW.out.2.2.1 HW.out.2.2.2 ?_)
              intro v' y3 h5 g5 n5
              have HK3 := Lib.hid (HW.out.1.grow (r' := r ++ [(bb, s.epoch)]) (by rw [List.map_append]; exact h5) g5 n5 (by have := HX.out.num; rw [List.length_append]; simp only [List.length_singleton]; omega))
              clear h5 g5 n5
              go_wp2_with fail
              go_roundw
              case rel => exact ⟨j + 1, p', q', t2, { s with tail := s.tail + parts bb.length }, F2, r ++ [(bb, s.epoch)], by omega, rfl, rfl, rfl, rfl, by go_num, HK3.out, .inl ⟨rfl, HL2.out⟩⟩
              case measure => simp [intOf]; omega
            · rw [e] at hk2 ⊢
              generalize (append s bb t).1 = t2 at *
              have hal : Below y.heap.size y (y.alloc (.cells #[.slice ob bb.length cb] tBs)) := (Below.refl _ _).alloc (Nat.le_refl _) _
              have HW := Lib.hid (And.intro (hk2.on hal) (And.intro (lone_recs (HA.out.2.1.below hbo)) hl2))
              clear hk2 hal e hl2 hbo hpp
              go_wp2_with fail
              go_roundw
              case rel => exact ⟨j + 1, p', q', t2, { s with dead := true }, F2, r, by omega, rfl, rfl, rfl, rfl, by go_num, HW.out.1, .inr ⟨bb, _, _, rfl, HW.out.2⟩⟩
              case measure => simp [intOf]; omega
          · have HTn := Lib.hid (And.intro hib htn)
            clear hib htn hk1
            go_wp2_with fail
            go_roundw
            case rel => exact ⟨j + 1, p', q', t, s, F, r, by omega, rfl, rfl, rfl, rfl, by go_num, HX.out.more, .inr ⟨b, ba, bc, rfl, HTn.out⟩⟩
            case measure => simp [intOf]; omega
        · have ek1 : (kd == 1) = false := by simp [hk1]
          by_cases hk2 : kd = 2
          · have ek2 : (kd == 2) = true := by simp [hk2]
            rcases hty with ⟨rfl, hlv⟩ | ⟨b, ba, bc, rfl, hib, htn⟩
            · have HLv := Lib.hid hlv
              have HS := Lib.hid HX.out.sys.cut
              clear hlv hk1 hk2
              go_wp2_with fail
              refine HS.out.mono ?_
              rintro e y ⟨rfl, hs2, hty⟩
              have HH := Lib.hid (head_any hs2.spool)
              have HK2 := Lib.hid (HX.out.none.next hs2 (fun k hk => .inl hk) (hty.mono fun k _ h => .inr h) ⟨rfl, rfl, rfl, by show s.tail ≤ _; omega⟩ HX.out.few)
              clear hs2 hty
              go_wp2_with fail
              refine HH.out.mono ?_
              rintro e y2 ⟨rfl, rfl⟩
              go_wp2_with fail
              go_roundw
              case rel => exact ⟨j + 1, p', q', t, { s with head := s.tail }, F, [], by omega, rfl, rfl, rfl, rfl, by go_num, HK2.out, .inl ⟨rfl, HLv.out.cut (by have := HX.out.geo; have := HLv.out.small; omega)⟩⟩
              case measure => simp [intOf]; omega
            · have HTn := Lib.hid (And.intro hib htn)
              clear hib htn hk1 hk2
              go_wp2_with fail
              go_roundw
              case rel => exact ⟨j + 1, p', q', t, s, F, r, by omega, rfl, rfl, rfl, rfl, by go_num, HX.out.more, .inr ⟨b, ba, bc, rfl, HTn.out⟩⟩
              case measure => simp [intOf]; omega
          · have ek2 : (kd == 2) = false := by simp [hk2]
            by_cases hk3 : kd = 3
            · have ek3 : (kd == 3) = true := by simp [hk3]
              rcases hty with ⟨rfl, hlv⟩ | ⟨b, ba, bc, rfl, hib, htn⟩
              · have HLv := Lib.hid hlv
                clear hlv hk1 hk2 hk3
                go_wp2_with fail
                obtain ⟨k, hk, hk1, hk2⟩ : ∃ k : Int, wrap64 ((IntKind.u64.wrap at_).tmod 200) = k ∧ 0 ≤ k ∧ k ≤ 199 := ⟨_, rfl, pow_k at_⟩
                rw [hk]
                have HS := HX.out.sys.pow k
                rw [if_pos ⟨hk1, by omega⟩, if_pos ⟨hk1, by omega⟩] at HS
                clear hk hk1 hk2
                refine HS.mono ?_
                rintro e y ⟨rfl, hs2, hty⟩
                have HK2 := Lib.hid (HX.out.next hs2 (fun k hk => .inl hk) (hty.mono fun k' _ h => .inl (by rw [h]; exact HX.out.sys.tray.fp)) ⟨rfl, rfl, rfl, by omega⟩ HX.out.few)
                clear hs2 hty HS
                go_wp2_with fail
                go_roundw
                case rel => exact ⟨j + 1, p', q', t.power k, s, F, r, by omega, rfl, rfl, rfl, rfl, by go_num, HK2.out, .inl ⟨rfl, HLv.out.power k⟩⟩
                case measure => simp [intOf]; omega
              · have HTn := Lib.hid (And.intro hib htn)
                clear hib htn hk1 hk2 hk3
                go_wp2_with fail
                go_roundw
                case rel => exact ⟨j + 1, p', q', t, s, F, r, by omega, rfl, rfl, rfl, rfl, by go_num, HX.out.more, .inr ⟨b, ba, bc, rfl, HTn.out⟩⟩
                case measure => simp [intOf]; omega
            · have ek3 : (kd == 3) = false := by simp [hk3]
              by_cases hk4 : kd = 4
              · have ek4 : (kd == 4) = true := by simp [hk4]
                clear hk1 hk2 hk3 hk4
                have HTy := Lib.hid hty
                have HLs := Lib.hid (Ta.lose_any HX.out.sys.tray (.slice oc fc.length cc) fc (HA.out.2.2.1.below HX.out.sys.below) (by have := HX.out.few; omega))
                clear hty
                obtain ⟨sf, sc, sh, st, se, sd⟩ := s
                obtain rfl : sf = 3 := HX.out.geo.1
                obtain rfl : sc = K := HX.out.geo.2.1
                go_wp2_with fail
                refine HLs.out.mono ?_
                rintro e z ⟨p2, rfl, -, hbz, hiz⟩
                have hrz := (hbz.block R HX.out.ltR).trans HX.out.ring
                have r0 : z.cell? ⟨R, 0, none⟩ = some (.int .i64 3) := by rw [Lib.cell_of_heap hrz]; rfl
                have r1 : z.cell? ⟨R, 1, none⟩ = some (.int .i64 (sc : Int)) := by rw [Lib.cell_of_heap hrz]; rfl
                obtain ⟨T, r', tail', hT, hf, hlv, hor, ht1, hn1, hT1⟩ := HTy.out.reopen (by have := HX.out.geo; show se + 1 ≤ _; simp only at this; omega) fc (fun k => rdS_len hiz _ k)
                obtain ⟨ya, yc, hvy⟩ := hT.slice
                subst hvy
                obtain ⟨ua, uc, hvu⟩ := HX.out.rows.slice
                rw [List.length_map] at hvu
                subst hvu
                have HO := sys_open (s := ⟨3, sc, sh, sh, se + 1, false⟩) (HX.out.sys.below.trans (hbz.mono HX.out.sys.below.size)) hiz (fun k hk => Nat.le_trans HX.out.sys.below.size hk.1) rfl rfl (by
                  have h1 := HX.out.geo
                  have h2 := HX.out.sys.fits
                  have h3 := h2.tail
                  have h4 := h2.head
                  simp only at h1 h3 h4
                  refine ⟨⟨?_, ?_, ?_, ?_⟩, ?_, ?_, ?_, ?_⟩ <;> simp <;> omega)
                simp only at hf HO
                rw [hf, show ((se + 1 : Nat) : Int) = (se : Int) + 1 from rfl] at HO
                have HO := Lib.hid HO
                have HZ := Lib.hid (And.intro hbz (And.intro hT (And.intro hlv (And.intro hor (And.intro ht1 (And.intro hn1 hT1))))))
                clear hbz hT hlv hor ht1 hn1 hT1 hiz hrz hf q0 q1 q2 q3
                have hw1 : wrap64 ((se : Int) + 1) = (se : Int) + 1 := by
                  have h1 := HX.out.geo
                  simp only at h1
                  unfold wrap64
                  omega
                go_wp2_with fail
                rw [hw1]
                clear hw1
                refine HO.out.mono ?_
                rintro e y ⟨q2, lv, rfl, hby, hq2, hs3, hr3⟩
                have hk3 := HX.out.anew HZ.out.1 hby hs3 hq2 hr3 rfl ⟨rfl, rfl, rfl, HZ.out.2.2.2.2.1⟩ (by have := HX.out.num; have := HZ.out.2.2.2.2.2.1; omega)
                have hxy : Below X.heap.size X y := HZ.out.1.trans (hby.mono HZ.out.1.size)
                have hlen : (r.map Prod.fst).length ≤ 40 := by have := HX.out.num; rw [List.length_map]; omega
                have HIs := Lib.hid (And.intro (hr3.is) (And.intro (HX.out.rows.is.below hxy) (And.intro (HZ.out.2.1.below hxy) hlen)))
                have HK3 := Lib.hid hk3
                clear hs3 hr3 hq2 hk3 hxy hlen hby HO r0 r1
                have hem := empty_recs y
                go_wp2_with (at_builtin; refine walk_more rfl _ _ rfl rfl rfl (more_empty y) HIs.out.2.1 (by have := HIs.out.2.2.2; simp only [List.length_nil]; omega) ?_)
                intro v1 z1 m1
                have m1 : More y z1 v1 (r.map Prod.fst) := m1
                have HM1 := Lib.hid m1
                clear m1 hem
                go_wp2_with (at_builtin; refine walk_more rfl _ _ rfl rfl rfl HM1.out HIs.out.2.2.1 (by have := HIs.out.2.2.2; have := HZ.out.2.2.2.2.2.2; omega) ?_)
                intro v2 z2 m2
                have HM2 := Lib.hid (And.intro m2.is m2.1)
                clear m2 HM1
                have HS1 := Lib.hid (same_any lv _ _ _ (HIs.out.1.below HM2.out.2) (HIs.out.2.1.below HM2.out.2))
                by_cases hsm : r'.map Prod.fst = r.map Prod.fst
                · rw [decide_eq_true hsm] at HS1
                  clear hsm
                  go_wp2_with fail
                  refine HS1.out.mono ?_
                  rintro e z3 ⟨rfl, hb3⟩
                  have HK4 := Lib.hid (HK3.out.on (HM2.out.2.trans (hb3.mono HM2.out.2.size)))
                  clear hb3
                  go_wp2_with fail
                  go_roundw
                  case rel => exact ⟨j + 1, p2, q2, t.lose fc, ⟨3, sc, sh, tail', se + 1, false⟩, Made X z, r', by omega, rfl, rfl, rfl, by go_num, by go_num, HK4.out, .inl ⟨rfl, HZ.out.2.2.1⟩⟩
                  case measure => simp [intOf]; omega
                · have hsm2 := HZ.out.2.2.2.1.resolve_left hsm
                  rw [decide_eq_false hsm] at HS1
                  have HS2 := Lib.hid (fun (z4 : World) (hz : Below y.heap.size y z4) (hm : IsRecs z4 v2 (r.map Prod.fst ++ T)) => same_any lv v2 _ _ (HIs.out.1.below hz) hm)
                  clear hsm
                  go_wp2_with fail
                  refine HS1.out.mono ?_
                  rintro e z3 ⟨rfl, hb3⟩
                  have hS2 := HS2.out z3 (HM2.out.2.trans (hb3.mono HM2.out.2.size)) (HM2.out.1.below hb3)
                  rw [decide_eq_true hsm2] at hS2
                  have HS3 := Lib.hid hS2
                  have HB3 := Lib.hid (HM2.out.2.trans (hb3.mono HM2.out.2.size))
                  clear hb3 hS2 HS2 hsm2
                  go_wp2_with fail
                  refine HS3.out.mono ?_
                  rintro e z4 ⟨rfl, hb4⟩
                  have HK4 := Lib.hid (HK3.out.on (HB3.out.trans (hb4.mono HB3.out.size)))
                  clear hb4
                  go_wp2_with fail
                  go_roundw
                  case rel => exact ⟨j + 1, p2, q2, t.lose fc, ⟨3, sc, sh, tail', se + 1, false⟩, Made X z, r', by omega, rfl, rfl, rfl, by go_num, by go_num, HK4.out, .inl ⟨rfl, HZ.out.2.2.1⟩⟩
                  case measure => simp [intOf]; omega
              · have ek4 : (kd == 4) = false := by simp [hk4]
                have HTy := Lib.hid hty
                clear hk1 hk2 hk3 hk4 hty
                go_wp2_with fail
                go_roundw
                case rel => exact ⟨j + 1, p', q', t, s, F, r, by omega, rfl, rfl, rfl, rfl, by go_num, HX.out.more, HTy.out⟩
                case measure => simp [intOf]; omega
      · have hnl : ¬ (j : Int) < (l.length : Int) := by omega
        have HE := Lib.hid HX.out.1.sys.below
        clear hlt
        go_wp2_with fail
        go_ret
        exact ⟨rfl, HE.out⟩
  · have hdf : decide (Few l) = false := decide_eq_false hfew
    rw [hdf]
    clear hfew hdf
    go_wp2_with fail
    refine (awake_any x3).mono ?_
    rintro e x4 ⟨rfl, hb⟩
    have H4 := Lib.hid (H3.out.1.trans (hb.mono H3.out.1.size))
    clear hb
    go_wp2_with fail
    go_ret
    exact ⟨rfl, H4.out⟩
end LawS13Keeps
end Sp
end Go.Proofs.Ytkfmmdiflbnhgaa
