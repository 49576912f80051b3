/-
  HoardImages, walked: image upon image, each with its records.
-/
import Derived.Test.YtkfmmdiflbnhgaaHoSt
namespace Go.Proofs.Ytkfmmdiflbnhgaa
set_option maxRecDepth 100000
open Go.RowKit
open Knot (Turns NewRow)
open Ta (IsBytes IsFlags Stay sec nul ptr IsT C5 Tray Made)
open Sp (S SpB found Recs IsRecs Live rdS parts append rec_at bytes_str str_inj tBss tBs recs_nil walk_recs)
namespace Ho
theorem two_cells (a b : Nat) (ha : a < 256) (hb : b < 256) : (Lib.byteCells [UInt8.ofNat a, UInt8.ofNat b]).toArray = #[.int .u8 (a : Int), .int .u8 (b : Int)] := by
  simp [Lib.byteCells, UInt8.toNat_ofNat', Nat.mod_eq_of_lt ha, Nat.mod_eq_of_lt hb]
/-- Bytes in a block. -/
theorem blk_bytes {y : World} {g : Nat} {l : List UInt8} {fr : Nat × Nat} (h : y.heap[g]? = some (.cells (Lib.byteCells l).toArray 5 fr)) (hm : l.length ≤ 100000) {G : Nat → Prop} (hG : ¬ G g) : Stay G y fun x => IsBytes x (.slice (some ⟨g, 0, none⟩) l.length l.length) l := fun x hx => by
  have hh := hx.heap h hG
  refine ⟨some ⟨g, 0, none⟩, l.length, rfl, Nat.le_refl _, by unfold maxLen; omega, fun _ => ⟨g, 0, rfl, fun j u hj => ?_⟩⟩
  rw [Go.Joins.cell_of_block hh, Nat.zero_add]
  simpa using hj
namespace LawH14I
set_option maxHeartbeats 32000000 in
set_option maxRecDepth 100000 in
theorem walk (L : List (List UInt8)) (v : Value) (z : Int) (w : World) (hv : IsRecs w v L) (hz : (Lit.int .u8 z).wf = true) :
    Calls Try.prog 13 #[v, .int .u8 z] w fun e x => e = .returned (.bool true) ∧ Below w.heap.size w x := by
  have h1 : 0 ≤ z ∧ z ≤ 255 := by simp [Lit.wf, IntKind.min, IntKind.max, IntKind.signed, IntKind.bits] at hz; exact hz
  obtain ⟨c, rfl⟩ : ∃ c : Nat, z = (c : Int) := ⟨z.toNat, by omega⟩
  have HV := Lib.hid hv
  obtain ⟨ao, cap, rfl, hlc, hcm, -⟩ := hv
  have hlen : L.length ≤ 9223372036854775807 := Nat.le_trans hlc (Nat.le_trans hcm (by decide))
  have hp80 : (80 : Int) = ((80 : Nat) : Int) := rfl
  have HN := Lib.hid (Ta.new_any 80 (by omega) w)
  rw [← hp80] at HN
  have hc255 : c ≤ 255 := by omega
  clear hp80 hz hlc hcm h1
  go_enter Try.func13, Try.ntmps13
  go_wp2_with fail
  refine HN.out.mono ?_
  rintro e x1 ⟨p, rfl, hb, hi⟩
  have H1 := Lib.hid (And.intro hb hi)
  clear hb hi HN
  have h00 : ((0 : Int) != 0) = false := rfl
  go_wp2_with fail
  refine (awake_any x1).mono ?_
  rintro e x3 ⟨rfl, hb⟩
  have H3 := Lib.hid (And.intro (H1.out.1.trans (hb.mono H1.out.1.size)) (H1.out.2.below hb))
  clear hb
  by_cases h20 : 20 < L.length
  · have e20 : (20 : Int) < (L.length : Int) := by omega
    clear h20
    go_wp2_with fail
    refine (awake_any x3).mono ?_
    rintro e x4 ⟨rfl, hb⟩
    have H4 := Lib.hid (H3.out.1.trans (hb.mono H3.out.1.size))
    clear hb
    go_wp2_with fail
    go_ret
    exact ⟨rfl, H4.out⟩
  · have e20 : ¬ (20 : Int) < (L.length : Int) := by omega
    have HL20 := Lib.hid h20
    clear h20
    have HLy := Lib.hid (laid_any H3.out.1 H3.out.2 (fun k hk => hk.1) (.slice none 0 0) [] (fun y _ => ⟨none, 0, rfl, Nat.le_refl _, Nat.zero_le _, fun h => absurd rfl h⟩) (by omega) (Nat.zero_le _))
    go_wp2_with fail
    refine HLy.out.mono ?_
    rintro e x4 ⟨q, h, F0, rfl, hs, hf, hlf, -, -⟩
    have HS0 := Lib.hid (show Hs w x4 h p q 80 (hlay 80 Tray.fresh []) F0 ∧ Firm 80 (hlay 80 Tray.fresh []) 1 0 [] [] ∧ (hlay 80 Tray.fresh []).t.left = -1 ∧ (hlay 80 Tray.fresh []).s.tail ≤ 6 * 0 ∧ (hlay 80 Tray.fresh []).s.epoch = 1 from ⟨hs, hf, hlf, by
      show (Sp.found Tray.fresh (ringS 80 0 1)).2 ≤ _
      rw [Sp.found_fresh]
      exact Nat.le_refl _, rfl⟩)
    generalize hlay 80 Tray.fresh [] = H0 at *
    clear hs hf hlf HLy H3 H1
    go_wp2_with fail
    go_loopw [51] (fun vi x => ∃ (i : Nat) (H : Hd) (F : Nat → Prop) (a f : Nat) (img : List UInt8) (r : List (List UInt8 × Nat)), i ≤ L.length ∧ vi = .int .i64 (i : Int) ∧ a ≤ i + 1 ∧ Hid (Hs w x h p q 80 H F ∧ Firm 80 H a f img r ∧ H.t.left = -1 ∧ H.s.tail ≤ 6 * i ∧ H.s.epoch = 1)) (fun i _ => L.length - (intOf i).toNat)
    case atStart => exact ⟨0, H0, F0, 1, 0, [], [], Nat.zero_le _, rfl, Nat.le_refl _, HS0.out⟩
    case round =>
      clear HS0 H0 F0 x4
      obtain ⟨i, H, F, a, f, img, r, hi, rfl, ha, HX⟩ := hrel
      by_cases hlt : i < L.length
      · obtain ⟨g, o, u, hix, hcu, hub⟩ := rec_at (HV.out.below HX.out.1.sys.below) hlt
        have hi20 : i < 20 := by have := HL20.out; omega
        have HU := Lib.hid (show IsBytes w u L[i] from by
          obtain ⟨g2, o2, u2, hix2, hcu2, hub2⟩ := rec_at HV.out hlt
          have h1 := hix wr
          rw [hix2 wr] at h1
          injection h1 with h2 h3
          injection h2 with h4
          injection h4 with h5
          obtain ⟨rfl, rfl, -⟩ := Addr.mk.inj h5
          obtain ⟨cc, hcc⟩ : ∃ cc, w.cell? ⟨g2, o2, none⟩ = cc := ⟨_, rfl⟩
          have h6 := HX.out.1.sys.below.cell (p := ⟨g2, o2, none⟩) (by
            have := hcu2
            simp only [World.cell?] at this
            by_cases hg : g2 < w.heap.size
            · exact hg
            · rw [Array.getElem?_eq_none (by omega)] at this; cases this)
          rw [h6, hcu2] at hcu
          obtain rfl := Option.some.inj hcu
          exact hub2)
        obtain ⟨ua, uc, rfl, -⟩ := hub
        generalize L[i] = b at *
        by_cases hb2 : 2000 < b.length
        · have e2 : (2000 : Int) < (b.length : Int) := by omega
          have HB := Lib.hid HX.out.1.sys.below
          clear hb2 HX
          go_wp2_with fail
          go_ret
          exact ⟨rfl, HB.out⟩
        · have e2 : ¬ (2000 : Int) < (b.length : Int) := by omega
          have HIm := Lib.hid (HX.out.1.image (.slice ua b.length uc) b (in_stay HU.out HX.out.1.sys.below HX.out.1.sys.new) (by omega) (by rw [HX.out.2.1.live.cache]; exact Nat.zero_le _) (by rw [HX.out.2.1.ms]; show a + 1 < _; omega) (by have := HX.out.2.2.2.1; omega))
          obtain ⟨f1, f2, f3, f4⟩ := firm_image (b := b) HX.out.2.1 (by have := HX.out.2.2.2.1; omega) (by omega) HX.out.2.2.1 (by show b.length ≤ 19 * 128; omega)
          rw [f1] at HIm
          go_wp2_with fail
          refine HIm.out.mono ?_
          rintro e x5 ⟨rfl, F1, hs1, -, -⟩
          have HY := Lib.hid (show Hs w x5 h p q 80 (himage 80 H b).1 F1 ∧ Firm 80 (himage 80 H b).1 (a + 1) (1 - f) b [] ∧ (himage 80 H b).1.t.left = -1 ∧ (himage 80 H b).1.s.tail ≤ 6 * i ∧ (himage 80 H b).1.s.head = (himage 80 H b).1.s.tail ∧ (himage 80 H b).1.s.epoch = 1 from
            ⟨hs1, f2, f4, by rw [f3]; exact HX.out.2.2.2.1, by rw [f3], by rw [f3]; exact HX.out.2.2.2.2⟩)
          generalize (himage 80 H b).1 = H1 at *
          clear hs1 f1 f2 f3 f4 HIm HX hcu hix
          go_upto_region 15 with fail
          have hcw : IntKind.i64.wrap ((c : Int) + (i : Int)) = (c : Int) + (i : Int) := by rw [IntKind.wrap_i64] <;> omega
          have hcw2 : IntKind.i64.wrap (c : Int) = (c : Int) := by rw [IntKind.wrap_i64] <;> omega
          have htm : ((c : Int) + (i : Int)).tmod 6 = (((c + i) % 6 : Nat) : Int) := by rw [Int.tmod_eq_emod_of_nonneg (by omega)]; omega
          have hN6 : (c + i) % 6 ≤ 5 := by omega
          go_wp2_with fail
          go_loopw [11, 68] (fun vu vk x => ∃ (k : Nat) (H : Hd) (F : Nat → Prop) (r : List (List UInt8 × Nat)), k ≤ (c + i) % 6 ∧ vk = .int .i64 (k : Int) ∧ Hid (Hk w x h p q H F vu (r.map Prod.fst) ∧ Firm 80 H (a + 1) (1 - f) b r ∧ H.t.left = -1 ∧ H.s.tail ≤ 6 * i + k ∧ H.s.tail = H.s.head + k ∧ H.s.epoch = 1 ∧ r.length = k)) (fun _ k _ => 100 - (intOf k).toNat)
          case atStart => exact ⟨0, H1, F1, [], Nat.zero_le _, rfl, Hk.none HY.out.1, HY.out.2.1, HY.out.2.2.1, by have := HY.out.2.2.2.1; omega, by have := HY.out.2.2.2.2.1; omega, HY.out.2.2.2.2.2, rfl⟩
          case round =>
            clear HY H1 F1 x5
            obtain ⟨k, H, F, r, hk, rfl, HX⟩ := hrel
            by_cases hltk : k < (c + i) % 6
            · have ek : (k : Int) < (((c + i) % 6 : Nat) : Int) := by omega
              have hik : i < 256 ∧ k < 256 := by omega
              have htc := two_cells i k hik.1 hik.2
              obtain ⟨xb, hxb⟩ : ∃ xb, xb = [UInt8.ofNat i, UInt8.ofNat k] := ⟨_, rfl⟩
              rw [← hxb] at htc
              have hxl : xb.length = 2 := by rw [hxb]; rfl
              have hal : Below wr.heap.size wr (wr.alloc (.cells #[.int .u8 (i : Int), .int .u8 (k : Int)] 5)) := (Below.refl _ _).alloc (Nat.le_refl _) _
              have hbk : (wr.alloc (.cells #[.int .u8 (i : Int), .int .u8 (k : Int)] 5)).heap[wr.heap.size]? = some (.cells (Lib.byteCells xb).toArray 5 (0, 0)) := by rw [htc]; exact heap_alloc_new wr _
              have hkX := HX.out.1.on hal
              have hbs := blk_bytes hbk (by rw [hxl]; omega) (G := F) (fun hF => by have := HX.out.1.lt _ (.inl hF); omega)
              rw [hxl] at hbs
              have HKp := Lib.hid (hkX.hs.keep (.slice (some ⟨wr.heap.size, 0, none⟩) 2 2) xb hbs (by rw [hxl]; omega) (by rw [HX.out.2.1.live.cache]; exact Nat.zero_le _) (by have := HX.out.2.2.2.1; omega))
              have HXk := Lib.hid (show Hk w (wr.alloc (.cells #[.int .u8 (i : Int), .int .u8 (k : Int)] 5)) h p q H F _ (r.map Prod.fst) ∧ (wr.alloc (.cells #[.int .u8 (i : Int), .int .u8 (k : Int)] 5)).heap[wr.heap.size]? = some (.cells (Lib.byteCells xb).toArray 5 (0, 0)) ∧ (∀ k, F k ∨ k = q ∨ k = h → k < wr.heap.size) ∧ (wr.alloc (.cells #[.int .u8 (i : Int), .int .u8 (k : Int)] 5)).heap.size = wr.heap.size + 1 ∧ xb.length = 2 from ⟨hkX, hbk, HX.out.1.lt, by simp, hxl⟩)
              clear hal hbk hkX hbs htc hxb hxl
              obtain ⟨vua, vuc, hvu⟩ := HX.out.1.rows.slice
              rw [List.length_map] at hvu
              subst hvu
              go_wp2_with fail
              refine HKp.out.mono ?_
              rintro e y ⟨rfl, F2, hs2, hF2, hty⟩
              have hpp : parts xb.length = 1 := by rw [HXk.out.2.2.2.2]; decide
              obtain ⟨k1, k2, k3, k4⟩ := firm_keep (b := xb) HX.out.2.1 (by rw [HXk.out.2.2.2.2]; omega) (fun kk => by
                have := hs2.lens
                rw [show (hkeep H xb).1.t = (Sp.append H.s xb H.t).1 from by rw [hkeep, if_neg (by rw [HX.out.2.1.alive.2]; decide)]] at this
                exact this _) HX.out.2.2.1 (by
                  have h1 := HX.out.2.1.ring.2
                  have h2 := HX.out.2.2.2.2.1
                  have h3 : qu 80 = 19 := rfl
                  rw [hpp]
                  omega)
              rw [k1]
              have hk2 := HXk.out.1.next hs2 hF2 hty
              have hbkY := hty.heap HXk.out.2.1 fun hh => by have := HXk.out.2.2.1 _ hh; omega
              have hF2b : ¬ (F2 wr.heap.size ∨ wr.heap.size = q ∨ wr.heap.size = h) := fun hh => by
                rcases hh with hh | hh | hh
                · rcases hF2 _ hh with h1 | h1
                  · have := HXk.out.2.2.1 _ (.inl h1); omega
                  · have := HXk.out.2.2.2.1; omega
                · have := HXk.out.2.2.1 q (.inr (.inl rfl)); omega
                · have := HXk.out.2.2.1 h (.inr (.inr rfl)); omega
              have hal : Below y.heap.size y (y.alloc (.cells #[.slice (some ⟨wr.heap.size, 0, none⟩) 2 2] tBs)) := (Below.refl _ _).alloc (Nat.le_refl _) _
              have hkz := hk2.on hal
              have hcell : (y.alloc (.cells #[.slice (some ⟨wr.heap.size, 0, none⟩) 2 2] tBs)).cell? ⟨y.heap.size, 0, none⟩ = some (.slice (some ⟨wr.heap.size, 0, none⟩) 2 2) := by rw [Lib.cell_of_heap (heap_alloc_new y _)]; rfl
              have hro : ¬ ((Value.slice vua r.length vuc).ownBlock = some wr.heap.size) := fun hh => by
                obtain ⟨vs, h1, -⟩ := HX.out.1.rows
                have := (h1.lt _ hh).2
                omega
              have hst := blk_bytes ((hal.block _ (Array.getElem?_eq_some_iff.1 hbkY).1).trans hbkY) (by rw [HXk.out.2.2.2.2]; omega) (G := fun kk => (F2 kk ∨ kk = q ∨ kk = h) ∨ (Value.slice vua r.length vuc).ownBlock = some kk) (fun hh => hh.elim hF2b hro)
              rw [HXk.out.2.2.2.2] at hst
              have HW := Lib.hid (show Hk w (y.alloc (.cells #[.slice (some ⟨wr.heap.size, 0, none⟩) 2 2] tBs)) h p q (hkeep H xb).1 F2 (.slice vua r.length vuc) (r.map Prod.fst) ∧ _ ∧ _ ∧ (r.map Prod.fst).length ≤ 1000000 from ⟨hkz, hcell, hst, by rw [List.length_map]; have := HX.out.2.2.2.2.2.2; omega⟩)
              have HFm := Lib.hid (show Firm 80 (hkeep H xb).1 (a + 1) (1 - f) b (r ++ [(xb, H.s.epoch)]) ∧ (hkeep H xb).1.t.left = -1 ∧ (hkeep H xb).1.s.tail = H.s.tail + 1 ∧ (hkeep H xb).1.s.head = H.s.head ∧ (hkeep H xb).1.s.epoch = 1 from ⟨k2, k4, by rw [k3, hpp], by rw [k3], by rw [k3]; exact HX.out.2.2.2.2.2.1⟩)
              generalize (hkeep H xb).1 = H3 at *
              clear hs2 hF2 hty k1 k2 k3 k4 hk2 hbkY hF2b hal hkz hcell hro hst HKp HXk
              go_wp2_with (at_builtin; refine walk_recs rfl _ _ rfl rfl rfl HW.out.1.rows HW.out.1.hs.sys.below.size HW.out.2.1 HW.out.2.2.1 HW.out.2.2.2 ?_)
              intro v' y3 h5 g5 n5
              have HK3 := Lib.hid (HW.out.1.grow (L' := (r ++ [(xb, H.s.epoch)]).map Prod.fst) (by rw [List.map_append]; exact h5) g5 n5)
              clear h5 g5 n5
              go_wp2_with fail
              go_roundw
              case rel => exact ⟨k + 1, H3, F2, r ++ [(xb, H.s.epoch)], by omega, by go_num, HK3.out, HFm.out.1, HFm.out.2.1, by have := HFm.out.2.2.1; have := HX.out.2.2.2.1; omega, by have := HFm.out.2.2.1; have := HFm.out.2.2.2.1; have := HX.out.2.2.2.2.1; omega, HFm.out.2.2.2.2, by rw [List.length_append, HX.out.2.2.2.2.2.2]; rfl⟩
              case measure => simp [intOf]; omega
            · obtain rfl : k = (c + i) % 6 := by omega
              have ek : ¬ ((((c + i) % 6 : Nat) : Int) < (((c + i) % 6 : Nat) : Int)) := by omega
              have hrd := HX.out.2.1.ready (by rw [HX.out.2.2.2.2.2.1]; omega) []
              have HLo := Lib.hid (Ta.lose_any HX.out.1.hs.sys.tray (.slice none 0 0) [] (none_flags wr) (by rw [HX.out.2.1.live.cache]; exact Nat.zero_le _))
              have HRd := Lib.hid hrd
              clear hrd
              obtain ⟨vua, vuc, hvu⟩ := HX.out.1.rows.slice
              rw [List.length_map] at hvu
              subst hvu
              go_wp2_with fail
              refine HLo.out.mono ?_
              rintro e x6 ⟨p', rfl, -, hb6, hi6⟩
              have hwr := HX.out.1.hs.sys.below
              have HOp := Lib.hid (opened_any (hwr.trans (hb6.mono hwr.size)) hi6 (fun k hk => by have := hk.1; have := hwr.size; omega) HRd.out (by omega) rfl)
              have HB6 := Lib.hid hb6
              clear hb6 hi6 HLo hwr
              go_wp2_with fail
              refine HOp.out.mono ?_
              rintro e x7 ⟨q7, h7, F7, G7, iv, rv, rfl, -, -, -, -, ht7, -, -, -, hiv, hst, hrc, -, -⟩
              have hb7 : Below wr.heap.size wr x7 := HB6.out.trans (ht7.below HB6.out.size fun k hk => hk.1)
              have hk7 := HX.out.1.on hb7
              have hrs := hrc.is
              have hib := hst.now
              obtain ⟨ia, im, ic, rfl⟩ := hiv
              have hcs := bytes_str hib
              have hub7 := bytes_str (HU.out.below hk7.hs.sys.below)
              have heq : ((Ta.str b).toList != (Ta.str b).toList) = false := by rw [bne, str_inj, decide_eq_true rfl]; rfl
              have HSa := Lib.hid (same_any rv (.slice vua r.length vuc) (r.map Prod.fst) (r.map Prod.fst) hrs hk7.rows.is)
              rw [decide_eq_true rfl] at HSa
              obtain ⟨ra, rc, hrv⟩ := hrs.slice
              rw [List.length_map] at hrv
              subst hrv
              have HK7 := Lib.hid hk7
              clear hb7 hk7 hrs hib hst hrc ht7 HOp HB6 HRd
              go_wp2_with fail
              refine HSa.out.mono ?_
              rintro e x8 ⟨rfl, hb8⟩
              have hk8 := HK7.out.on hb8
              have HRm := Lib.hid hk8.hs.room
              have hrm : (H.s.count : Int) - ((H.s.tail : Int) - (H.s.head : Int)) = 40 - (r.length : Int) := by
                have h1 := HX.out.2.1.ring.2
                have h2 := HX.out.2.2.2.2.1
                have h3 := HX.out.2.2.2.2.2.2
                have h4 : qu 80 = 19 := rfl
                omega
              rw [hrm] at HRm
              have HK8 := Lib.hid hk8
              clear hb8 hk8 HSa HK7 hrm
              have hr5 : r.length ≤ 5 := by have := HX.out.2.2.2.2.2.2; omega
              have hne : ((40 - (r.length : Int)) != (40 - (r.length : Int))) = false := by simp
              go_wp2_with fail
              refine HRm.out.mono ?_
              rintro e x9 ⟨rfl, hb9⟩
              have HE := Lib.hid (HK8.out.hs.on hb9)
              clear hb9 HRm HK8
              go_wp2_with fail
              go_roundw
              case rel => exact ⟨i + 1, H, F, a + 1, 1 - f, b, r, by omega, by go_num, by omega, HE.out, HX.out.2.1, HX.out.2.2.1, by have := HX.out.2.2.2.1; omega, HX.out.2.2.2.2.2.1⟩
              case measure => simp [intOf]; omega
      · obtain rfl : i = L.length := by omega
        have HB := Lib.hid HX.out.1.sys.below
        clear HX
        go_wp2_with fail
        go_ret
        exact ⟨rfl, HB.out⟩
end LawH14I
end Ho
end Go.Proofs.Ytkfmmdiflbnhgaa
