/-
  HoardAgain, walked: opened again and again, under any power, it holds what was kept.
-/
import Derived.Test.YtkfmmdiflbnhgaaHoAg
namespace Go.Proofs.Ytkfmmdiflbnhgaa
set_option maxRecDepth 100000
open Go.RowKit
open Knot (Turns NewRow)
open Ta (IsBytes IsFlags Stay sec nul ptr IsT C5 Tray Made)
open Sp (S SpB found Recs IsRecs Live rdS parts append rec_at bytes_str str_inj tBss tBs recs_nil walk_recs)
namespace Ho
namespace LawH14A
set_option maxHeartbeats 32000000 in
set_option maxRecDepth 100000 in
theorem walk (b : List UInt8) (v1 : Value) (L : List (List UInt8)) (v2 : Value) (C : List UInt8) (v3 : Value) (w : World) (h1 : IsBytes w v1 b) (h2 : IsRecs w v2 L) (h3 : IsBytes w v3 C) :
    Calls Try.prog 11 #[v1, v2, v3] w fun e x => e = .returned (.bool true) ∧ Below w.heap.size w x := by
  have HI := Lib.hid h1
  have HV := Lib.hid h2
  have HC := Lib.hid h3
  obtain ⟨ia, ic, rfl, gi1, gi2, -⟩ := h1
  obtain ⟨ra, rc, rfl, gr1, gr2, -⟩ := h2
  obtain ⟨ca, cc, rfl, gc1, gc2, -⟩ := h3
  have hli : b.length ≤ 9223372036854775807 := Nat.le_trans gi1 (Nat.le_trans gi2 (by decide))
  have hlr : L.length ≤ 9223372036854775807 := Nat.le_trans gr1 (Nat.le_trans gr2 (by decide))
  have hlc : C.length ≤ 9223372036854775807 := Nat.le_trans gc1 (Nat.le_trans gc2 (by decide))
  clear gi1 gi2 gr1 gr2 gc1 gc2
  have hp80 : (80 : Int) = ((80 : Nat) : Int) := rfl
  have HN := Lib.hid (Ta.new_any 80 (by omega) w)
  rw [← hp80] at HN
  clear hp80
  go_enter Try.func11, Try.ntmps11
  go_wp2_with fail
  refine HN.out.mono ?_
  rintro e x1 ⟨p, rfl, hb, hi⟩
  have H1 := Lib.hid (And.intro hb hi)
  clear hb hi HN
  have h00 : ((0 : Int) != 0) = false := rfl
  go_wp2_with fail
  refine (awake_any x1).mono ?_
  rintro e x3 ⟨rfl, hb⟩
  have H3 := Lib.hid (And.intro (H1.out.1.trans (hb.mono H1.out.1.size)) (H1.out.2.below hb))
  clear hb H1
  by_cases hbig : 2000 < b.length ∨ 8 < L.length ∨ 12 < C.length
  · have HB := Lib.hid H3.out.1
    clear H3 HI HV HC
    by_cases c1 : 2000 < b.length
    · have e1 : (2000 : Int) < (b.length : Int) := by omega
      clear hbig c1
      go_wp2_with fail
      refine (awake_any x3).mono ?_
      rintro e x4 ⟨rfl, hb⟩
      have H4 := Lib.hid (HB.out.trans (hb.mono HB.out.size))
      clear hb
      go_wp2_with fail
      go_ret
      exact ⟨rfl, H4.out⟩
    · have e1 : ¬ (2000 : Int) < (b.length : Int) := by omega
      by_cases c2 : 8 < L.length
      · have e2 : (8 : Int) < (L.length : Int) := by omega
        clear hbig c1 c2
        go_wp2_with fail
        refine (awake_any x3).mono ?_
        rintro e x4 ⟨rfl, hb⟩
        have H4 := Lib.hid (HB.out.trans (hb.mono HB.out.size))
        clear hb
        go_wp2_with fail
        go_ret
        exact ⟨rfl, H4.out⟩
      · have e2 : ¬ (8 : Int) < (L.length : Int) := by omega
        have e3 : (12 : Int) < (C.length : Int) := by omega
        clear hbig c1 c2
        go_wp2_with fail
        refine (awake_any x3).mono ?_
        rintro e x4 ⟨rfl, hb⟩
        have H4 := Lib.hid (HB.out.trans (hb.mono HB.out.size))
        clear hb
        go_wp2_with fail
        go_ret
        exact ⟨rfl, H4.out⟩
  · have e1 : ¬ (2000 : Int) < (b.length : Int) := by omega
    have e2 : ¬ (8 : Int) < (L.length : Int) := by omega
    have e3 : ¬ (12 : Int) < (C.length : Int) := by omega
    have HSm := Lib.hid (show b.length ≤ 2000 ∧ L.length ≤ 8 ∧ C.length ≤ 12 by omega)
    clear hbig
    have HLy := Lib.hid (laid_any H3.out.1 H3.out.2 (fun k hk => hk.1) (.slice ia b.length ic) b (in_stay HI.out H3.out.1 fun k hk => hk.1) (by omega) (by have := HSm.out.1; show b.length ≤ 19 * 128; omega))
    go_wp2_with fail
    refine HLy.out.mono ?_
    rintro e x4 ⟨q, h, F0, rfl, hs, hf, hlf, -, -⟩
    have HS0 := Lib.hid (show Hs w x4 h p q 80 (hlay 80 Tray.fresh b) F0 ∧ Firm 80 (hlay 80 Tray.fresh b) 1 0 b [] ∧ (hlay 80 Tray.fresh b).t.left = -1 ∧ (hlay 80 Tray.fresh b).s.tail ≤ 3 * 0 ∧ (hlay 80 Tray.fresh b).s.head = 0 ∧ (hlay 80 Tray.fresh b).s.epoch = 1 from ⟨hs, hf, hlf, by
      show (Sp.found Tray.fresh (ringS 80 0 1)).2 ≤ _
      rw [Sp.found_fresh]
      exact Nat.le_refl _, rfl, rfl⟩)
    generalize hlay 80 Tray.fresh b = H0 at *
    clear hs hf hlf HLy H3
    go_wp2_with fail
    go_loopw [67] (fun vi x => ∃ (i : Nat) (H : Hd) (F : Nat → Prop) (r : List (List UInt8 × Nat)), i ≤ L.length ∧ vi = .int .i64 (i : Int) ∧ Hid (Hs w x h p q 80 H F ∧ Firm 80 H 1 0 b r ∧ H.t.left = -1 ∧ H.s.tail ≤ 3 * i ∧ H.s.head = 0 ∧ H.s.epoch = 1 ∧ r.map Prod.fst = L.take i)) (fun i _ => L.length - (intOf i).toNat)
    case atStart => exact ⟨0, H0, F0, [], Nat.zero_le _, rfl, HS0.out.1, HS0.out.2.1, HS0.out.2.2.1, HS0.out.2.2.2.1, HS0.out.2.2.2.2.1, HS0.out.2.2.2.2.2, rfl⟩
    case round =>
      clear HS0 H0 F0 x4
      obtain ⟨i, H, F, r, hi, rfl, HX⟩ := hrel
      by_cases hlt : i < L.length
      · obtain ⟨g, o, u, hix, hcu0, hub⟩ := rec_at HV.out hlt
        have hcu : wr.cell? ⟨g, o, none⟩ = some u := by
          rw [HX.out.1.sys.below.cell (p := ⟨g, o, none⟩) (by
            have := hcu0
            simp only [World.cell?] at this
            by_cases hg : g < w.heap.size
            · exact hg
            · rw [Array.getElem?_eq_none (by omega)] at this; cases this)]
          exact hcu0
        have HU := Lib.hid hub
        have HT := Lib.hid (show L.take (i + 1) = L.take i ++ [L[i]] from List.take_succ_eq_append_getElem hlt)
        obtain ⟨ua, uc, rfl, -⟩ := hub
        generalize L[i] = d at *
        by_cases hb2 : 300 < d.length
        · have e4 : (300 : Int) < (d.length : Int) := by omega
          have HB := Lib.hid HX.out.1.sys.below
          clear hb2 HX hcu0
          go_wp2_with fail
          go_ret
          exact ⟨rfl, HB.out⟩
        · have e4 : ¬ (300 : Int) < (d.length : Int) := by omega
          have HKp := Lib.hid (HX.out.1.keep (.slice ua d.length uc) d (in_stay HU.out HX.out.1.sys.below HX.out.1.sys.new) (by omega) (by rw [HX.out.2.1.live.cache]; exact Nat.zero_le _) (by have := HX.out.2.2.2.1; have := HSm.out.2.1; omega))
          have HD := Lib.hid (show d.length ≤ 300 by omega)
          clear hb2 hcu0
          go_wp2_with fail
          refine HKp.out.mono ?_
          rintro e y ⟨rfl, F2, hs2, -, -⟩
          have hpp : parts d.length ≤ 3 := by have := HD.out; unfold parts; omega
          obtain ⟨k1, k2, k3, k4⟩ := firm_keep (b := d) HX.out.2.1 (by have := HD.out; omega) (fun kk => by
            have := hs2.lens
            rw [show (hkeep H d).1.t = (Sp.append H.s d H.t).1 from by rw [hkeep, if_neg (by rw [HX.out.2.1.alive.2]; decide)]] at this
            exact this _) HX.out.2.2.1 (by
              have h1 := HX.out.2.1.ring.2
              have h2 := HX.out.2.2.2.1
              have h4 := HSm.out.2.1
              have h3 : qu 80 = 19 := rfl
              omega)
          rw [k1]
          have HY := Lib.hid (show Hs w y h p q 80 (hkeep H d).1 F2 ∧ Firm 80 (hkeep H d).1 1 0 b (r ++ [(d, H.s.epoch)]) ∧ (hkeep H d).1.t.left = -1 ∧ (hkeep H d).1.s.tail ≤ 3 * (i + 1) ∧ (hkeep H d).1.s.head = 0 ∧ (hkeep H d).1.s.epoch = 1 ∧ (r ++ [(d, H.s.epoch)]).map Prod.fst = L.take (i + 1) from
            ⟨hs2, k2, k4, by rw [k3]; show H.s.tail + parts d.length ≤ _; have := HX.out.2.2.2.1; omega, by rw [k3]; exact HX.out.2.2.2.2.1, by rw [k3]; exact HX.out.2.2.2.2.2.1, by rw [List.map_append, HX.out.2.2.2.2.2.2, HT.out]; rfl⟩)
          generalize (hkeep H d).1 = H3 at *
          generalize r ++ [(d, H.s.epoch)] = r3 at *
          clear hs2 hpp k1 k2 k3 k4 HKp HX HT
          go_wp2_with fail
          go_roundw
          case rel => exact ⟨i + 1, H3, F2, r3, by omega, by go_num, HY.out⟩
          case measure => simp [intOf]; omega
      · obtain rfl : i = L.length := by omega
        have HRy := Lib.hid (show Below w.heap.size w wr ∧ IsT wr p 80 H.t F ∧ (∀ k, F k → w.heap.size ≤ k) ∧ H.t.cache.length ≤ 1 ∧ Rdy 80 H.t 1 0 H.s.head H.s.tail b r from ⟨HX.out.1.sys.below, HX.out.1.sys.tray, HX.out.1.sys.new, by rw [HX.out.2.1.live.cache]; exact Nat.zero_le _, fun ch => ⟨1, 1, Nat.le_refl _, Nat.le_refl _, by
          have h1 := HX.out.2.1.ready (by rw [HX.out.2.2.2.2.2.1]; decide) ch
          rw [HX.out.2.2.2.2.2.1] at h1
          exact h1⟩⟩)
        have HRm := Lib.hid (show r.map Prod.fst = L from by rw [HX.out.2.2.2.2.2.2, List.take_length])
        generalize H.s.head = hd at *
        generalize H.s.tail = tail at *
        generalize H.t = t0 at *
        clear HX hlt hi H
        go_wp2_with fail
        go_loopw [7, 83] (fun vt vi x => ∃ (i p : Nat) (u : Tray (List UInt8)) (F : Nat → Prop), i ≤ C.length ∧ vi = .int .i64 (i : Int) ∧ vt = ptr p ∧ Hid (Below w.heap.size w x ∧ IsT x p 80 u F ∧ (∀ k, F k → w.heap.size ≤ k) ∧ u.cache.length ≤ 1 ∧ Rdy 80 u (i + 1) 0 hd tail b r)) (fun _ i _ => C.length - (intOf i).toNat)
        case atStart => exact ⟨0, p, t0, F, Nat.zero_le _, rfl, rfl, HRy.out⟩
        case round =>
          clear HRy
          obtain ⟨i, p, u, F, hi, rfl, rfl, HX⟩ := hrel
          by_cases hlt : i < C.length
          · obtain ⟨g, o, hix, hcu⟩ := Ta.byte_at (HC.out.below HX.out.1) hlt
            generalize C[i] = c at *
            have hm : c.toNat < 256 := c.toNat_lt
            generalize c.toNat = m at *
            have htm : ((m : Nat) : Int).tmod 3 = ((m % 3 : Nat) : Int) := by rw [Int.tmod_eq_emod_of_nonneg (by omega)]; omega
            have htd : ((m : Nat) : Int).tdiv 3 = ((m / 3 : Nat) : Int) := by rw [Int.tdiv_eq_ediv_of_nonneg (by omega)]; omega
            have htm2 : (((m / 3 : Nat) : Int)).tmod 2 = ((m / 3 % 2 : Nat) : Int) := by rw [Int.tmod_eq_emod_of_nonneg (by omega)]; omega
            obtain ⟨bq, hbq⟩ : ∃ bq, bq = ((m : Int) / 3 % 2 == 1) := ⟨_, rfl⟩
            have hz3 : m % 3 < 3 := by omega
            generalize m % 3 = z at *
            have HLo := Lib.hid (Ta.lose_any HX.out.2.1 (.slice none 0 0) [] (none_flags wr) (by have := HX.out.2.2.2.1; omega))
            go_wp2_with fail
            refine HLo.out.mono ?_
            rintro e x6 ⟨p6, rfl, hp6, hb6, hi6⟩
            obtain ⟨a, e, ha, he, hr⟩ := HX.out.2.2.2.2 []
            have HPw := Lib.hid (Ta.power_any (z : Int) hi6)
            rw [if_pos (by omega), if_pos (by omega)] at HPw
            have HR6 := Lib.hid (And.intro hp6 (And.intro hb6 (And.intro ha (And.intro he (hr.power (z : Int))))))
            have hwz : IntKind.i64.wrap (z : Int) = (z : Int) := by rw [IntKind.wrap_i64] <;> omega
            clear hp6 hb6 hi6 HLo ha he hr
            go_wp2_with fail
            refine HPw.out.mono ?_
            rintro e x7 ⟨rfl, ht7, hi7⟩
            have hb7 : Below wr.heap.size wr x7 := HR6.out.2.1.trans (ht7.below HR6.out.2.1.size fun k hk => by rw [hk]; exact HR6.out.1)
            have hw7 : Below w.heap.size w x7 := HX.out.1.trans (hb7.mono HX.out.1.size)
            have HOp := Lib.hid (reopen_any hw7 hi7 (fun k hk => by have := hk.1; have := HX.out.1.size; omega) HR6.out.2.2.2.2 HR6.out.2.2.1 HR6.out.2.2.2.1 (by have := HSm.out.2.2; omega))
            have HB7 := Lib.hid (And.intro hb7 hw7)
            clear ht7 hi7 hb7 hw7 HPw
            go_wp2_with fail
            refine HOp.out.mono ?_
            rintro e x8 ⟨hv8, iv, rv, cd, u8, F8, rfl, ht8, hi8, hF8, hc8, hr8, hcase⟩
            have hb8 : Below wr.heap.size wr x8 := HB7.out.1.trans (ht8.below HB7.out.1.size fun k hk => hk.1)
            have hw8 : Below w.heap.size w x8 := HX.out.1.trans (hb8.mono HX.out.1.size)
            have HF8 := Lib.hid (show ∀ k, F8 k → w.heap.size ≤ k from fun k hk => by
              have h1 := HX.out.1.size
              have h2 := HB7.out.1.size
              rcases hF8 k hk with h3 | h3
              · have := h3.1; omega
              · omega)
            have H8 := Lib.hid (And.intro hw8 (And.intro hi8 (And.intro hc8 hr8)))
            by_cases hz : z = 2
            · obtain ⟨-, rfl, ⟨ia', im, ic', rfl⟩, hib, hrs⟩ := hcase.resolve_right fun h5 => h5.1 (set_two (by rw [hz]; rfl))
              rw [HRm.out] at hrs
              have hcs := bytes_str hib
              have hub7 := bytes_str (HI.out.below hw8)
              have heq : ((Ta.str b).toList != (Ta.str b).toList) = false := by rw [bne, str_inj, decide_eq_true rfl]; rfl
              have hez : ((z : Int) == 2) = true := by rw [hz]; rfl
              have HSa := Lib.hid (same_any rv (.slice ra L.length rc) L L hrs (HV.out.below hw8))
              rw [decide_eq_true rfl] at HSa
              clear hrs hib HOp hb8 hw8 ht8 hi8 hF8 hc8 hr8 hz
              go_wp2_with fail
              refine HSa.out.mono ?_
              rintro e x9 ⟨rfl, hb9⟩
              have hal : Below x9.heap.size x9 (x9.alloc (.cells #[.bool bq] 4)) := (Below.refl _ _).alloc (Nat.le_refl _) _
              have HLq := Lib.hid (Ta.lose_any ((H8.out.2.1.below hb9).below hal) (.slice (some ⟨x9.heap.size, 0, none⟩) 1 1) [bq] (one_flag x9 bq _ _) (by have := H8.out.2.2.1; omega))
              have H9 := Lib.hid (show Below w.heap.size w (x9.alloc (.cells #[.bool bq] 4)) from H8.out.1.trans ((hb9.mono H8.out.1.size).trans (hal.mono (Nat.le_trans H8.out.1.size hb9.size))))
              clear hb9 hal HSa
              go_wp2_with fail
              rw [← hbq]
              refine HLq.out.mono ?_
              rintro e y ⟨p9, rfl, hp9, hb10, hi10⟩
              have HE := Lib.hid (show Below w.heap.size w y ∧ IsT y p9 80 (u8.lose [bq]) _ ∧ (∀ k, Made (x9.alloc (.cells #[.bool bq] 4)) y k → w.heap.size ≤ k) ∧ (u8.lose [bq]).cache.length ≤ 1 ∧ Rdy 80 (u8.lose [bq]) (i + 1 + 1) 0 hd tail b r from ⟨H9.out.trans (hb10.mono H9.out.size), hi10, fun k hk => by have := hk.1; have := H9.out.size; omega, Nat.zero_le _, H8.out.2.2.2.lost _⟩)
              clear hb10 hi10 hp9 HLq
              go_wp2_with fail
              go_roundw
              case rel => exact ⟨i + 1, p9, _, _, by omega, by go_num, rfl, HE.out⟩
              case measure => simp [intOf]; omega
            · obtain ⟨-, rfl⟩ := hcase.resolve_left fun h5 => set_few (u := (u.lose []).power (z : Int)) (ms := openM (cnt ((u.lose []).power (z : Int))).1) (by show (z : Int) = 0 ∨ (z : Int) = 1; omega) h5.1
              have hez : ((z : Int) == 2) = false := by simp; omega
              clear HOp hb8 hw8 ht8 hi8 hF8 hc8 hr8 hz
              have hal : Below x8.heap.size x8 (x8.alloc (.cells #[.bool bq] 4)) := (Below.refl _ _).alloc (Nat.le_refl _) _
              have HLq := Lib.hid (Ta.lose_any (H8.out.2.1.below hal) (.slice (some ⟨x8.heap.size, 0, none⟩) 1 1) [bq] (one_flag x8 bq _ _) (by have := H8.out.2.2.1; omega))
              have H9 := Lib.hid (show Below w.heap.size w (x8.alloc (.cells #[.bool bq] 4)) from H8.out.1.trans (hal.mono H8.out.1.size))
              clear hal
              go_wp2_with fail
              rw [← hbq]
              refine HLq.out.mono ?_
              rintro e y ⟨p9, rfl, hp9, hb10, hi10⟩
              have HE := Lib.hid (show Below w.heap.size w y ∧ IsT y p9 80 (u8.lose [bq]) _ ∧ (∀ k, Made (x8.alloc (.cells #[.bool bq] 4)) y k → w.heap.size ≤ k) ∧ (u8.lose [bq]).cache.length ≤ 1 ∧ Rdy 80 (u8.lose [bq]) (i + 1 + 1) 0 hd tail b r from ⟨H9.out.trans (hb10.mono H9.out.size), hi10, fun k hk => by have := hk.1; have := H9.out.size; omega, Nat.zero_le _, H8.out.2.2.2.lost _⟩)
              clear hb10 hi10 hp9 HLq
              go_wp2_with fail
              go_roundw
              case rel => exact ⟨i + 1, p9, _, _, by omega, by go_num, rfl, HE.out⟩
              case measure => simp [intOf]; omega
          · obtain rfl : i = C.length := by omega
            have HLo := Lib.hid (Ta.lose_any HX.out.2.1 (.slice none 0 0) [] (none_flags wr) (by have := HX.out.2.2.2.1; omega))
            go_wp2_with fail
            refine HLo.out.mono ?_
            rintro e x6 ⟨p', rfl, -, hb6, hi6⟩
            obtain ⟨a, e, ha, he, hr⟩ := HX.out.2.2.2.2 []
            have hwr := HX.out.1
            have HOp := Lib.hid (opened_any (hwr.trans (hb6.mono hwr.size)) hi6 (fun k hk => by have := hk.1; have := hwr.size; omega) hr (by have := HSm.out.2.2; omega) rfl)
            have HB6 := Lib.hid hb6
            clear hb6 hi6 HLo hwr hr ha he
            go_wp2_with fail
            refine HOp.out.mono ?_
            rintro e x7 ⟨q7, h7, F7, G7, iv, rv, rfl, -, -, -, -, ht7, -, -, -, hiv, hst, hrc, -, -⟩
            have hb7 : Below wr.heap.size wr x7 := HB6.out.trans (ht7.below HB6.out.size fun k hk => hk.1)
            have hw7 : Below w.heap.size w x7 := HX.out.1.trans (hb7.mono HX.out.1.size)
            have hrs := hrc.is
            rw [HRm.out] at hrs
            have hib := hst.now
            obtain ⟨ia', im, ic', rfl⟩ := hiv
            have hcs := bytes_str hib
            have hub7 := bytes_str (HI.out.below hw7)
            have heq : ((Ta.str b).toList == (Ta.str b).toList) = true := by rw [str_inj, decide_eq_true rfl]
            have HSa := Lib.hid (same_any rv (.slice ra L.length rc) L L hrs (HV.out.below hw7))
            rw [decide_eq_true rfl] at HSa
            have HW7 := Lib.hid hw7
            clear hb7 hrs hib hst hrc ht7 HOp HB6 hw7
            go_wp2_with fail
            refine HSa.out.mono ?_
            rintro e x8 ⟨rfl, hb8⟩
            have HB8 := Lib.hid (HW7.out.trans (hb8.mono HW7.out.size))
            clear hb8
            go_wp2_with fail
            go_ret
            exact ⟨rfl, HB8.out⟩
end LawH14A
end Ho
end Go.Proofs.Ytkfmmdiflbnhgaa
