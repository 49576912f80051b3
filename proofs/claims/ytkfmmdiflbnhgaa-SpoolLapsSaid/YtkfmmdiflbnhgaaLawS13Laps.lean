/-
  SpoolLaps, walked: round by round, over many laps of the ring, what was appended since the last cut is found, and nothing of earlier laps.
-/
import Derived.Test.YtkfmmdiflbnhgaaSpLp
import Derived.Deep.CutBlock
namespace Go.Proofs.Ytkfmmdiflbnhgaa
set_option maxRecDepth 100000
open Go.RowKit
open Knot (Turns NewRow)
open Ta (IsBytes Stay sec nul ptr IsT Tray Made Grow)
namespace Sp
/-- What there was then is as it was. -/
def Since (x y : World) : Prop := Below x.heap.size x y
theorem Since.refl (x : World) : Since x x := Below.refl _ _
theorem Since.trans {x y z : World} (h : Since x y) (k : Since y z) : Since x z := Below.trans h (Below.mono k (Below.size h))
namespace LawS13Laps
set_option maxHeartbeats 32000000 in
set_option maxRecDepth 100000 in
theorem walk (l : List UInt8) (v : Value) (z : Int) (w : World) (hv : IsBytes w v l) (hz : (Lit.int .u8 z).wf = true) :
    Calls Try.prog 8 #[v, .int .u8 z] w fun e x => e = .returned (.bool true) ∧ Below w.heap.size w x := by
  have h1 : 0 ≤ z ∧ z ≤ 255 := by simp [Lit.wf, IntKind.min, IntKind.max, IntKind.signed, IntKind.bits] at hz; exact hz
  obtain ⟨c, rfl⟩ : ∃ c : Nat, z = (c : Int) := ⟨z.toNat, by omega⟩
  have HV := Lib.hid hv
  obtain ⟨ao, cap, rfl, hlc, hcm, -⟩ := hv
  have hlen : l.length ≤ 9223372036854775807 := Nat.le_trans hlc (Nat.le_trans hcm (by decide))
  have hp40 : (20 : Int) = ((20 : Nat) : Int) := rfl
  have HN := Lib.hid (Ta.new_any 20 (by omega) w)
  clear hp40 hz hlc hcm
  go_enter Try.func8, Try.ntmps8
  go_wp2_with fail
  refine HN.out.mono ?_
  rintro e x1 ⟨p, rfl, hb, hi⟩
  have H1 := Lib.hid (And.intro hb hi)
  clear hb hi HN
  have h00 : ((0 : Int) != 0) = false := rfl
  go_wp2_with fail
  refine (awake_any x1).mono ?_
  rintro e x3 ⟨rfl, hb⟩
  have H3 := Lib.hid (And.intro (H1.out.1.trans (hb.mono H1.out.1.size)) (H1.out.2.below hb))
  clear hb
  by_cases h60 : 60 < l.length
  · have e60 : (60 : Int) < (l.length : Int) := by omega
    clear h60
    go_wp2_with fail
    refine (awake_any x3).mono ?_
    rintro e x4 ⟨rfl, hb⟩
    have H4 := Lib.hid (H3.out.1.trans (hb.mono H3.out.1.size))
    clear hb
    go_wp2_with fail
    go_ret
    exact ⟨rfl, H4.out⟩
  · have e60 : ¬ (60 : Int) < (l.length : Int) := by omega
    have HL60 := Lib.hid h60
    clear h60
    have hck : c % 12 < 12 := Nat.mod_lt _ (by omega)
    go_upto_region 5 with fail
    have hK : 4 + (c : Int) % 12 = ((4 + c % 12 : Nat) : Int) := by omega
    rw [hK]
    clear hK
    have hk2 : 4 ≤ 4 + c % 12 ∧ 4 + c % 12 ≤ 15 := by omega
    generalize 4 + c % 12 = K at *
    clear hck h1
    obtain ⟨x4, hx4⟩ : ∃ X, X = x3.alloc (.cells #[.int .i64 1, .int .i64 (K : Int)] tRg) := ⟨_, rfl⟩
    rw [← hx4]
    have hal : Below x3.heap.size x3 x4 := by rw [hx4]; exact (Below.refl _ _).alloc (Nat.le_refl _) _
    have hrb : x4.heap[x3.heap.size]? = some (.cells #[.int .i64 1, .int .i64 (K : Int)] tRg (0, 0)) := by rw [hx4]; exact heap_alloc_new x3 _
    have HO := Lib.hid (sys_open (s := ⟨1, K, 0, 0, 1, false⟩) (H3.out.1.trans (hal.mono H3.out.1.size)) (H3.out.2.below hal) (fun k hk => hk.1) rfl rfl (by refine ⟨⟨?_, ?_, ?_, ?_⟩, ?_, ?_, ?_, ?_⟩ <;> simp <;> omega))
    rw [found_fresh] at HO
    simp only at HO
    have r0 : x4.cell? ⟨x3.heap.size, 0, none⟩ = some (.int .i64 1) := by rw [Lib.cell_of_heap hrb]; rfl
    have r1 : x4.cell? ⟨x3.heap.size, 1, none⟩ = some (.int .i64 (K : Int)) := by rw [Lib.cell_of_heap hrb]; rfl
    have HRb := Lib.hid (And.intro hrb (show w.heap.size ≤ x3.heap.size ∧ (∀ k, Made w x1 k → k < x3.heap.size) from ⟨H3.out.1.size, fun k hk => H3.out.2.low k hk⟩))
    clear hal hrb hx4 H1
    generalize x3.heap.size = R at *
    go_wp2_with fail
    refine HO.out.mono ?_
    rintro e x5 ⟨q, lv, rfl, hx5, hq, hsys, hr⟩
    obtain ⟨ra, rc, rfl⟩ := hr.slice
    have hlv := inv_fresh K (by omega) (rd := rdS Tray.fresh ⟨1, K, 0, 0, 1, false⟩) fun k => rfl
    have HK := Lib.hid (show Lp w x5 p q R K Tray.fresh ⟨1, K, 0, 0, 1, false⟩ (Made w x1) (.slice none 0 0) [] 0 from by
      have hR := (Array.getElem?_eq_some_iff.1 HRb.out.1).1
      exact ⟨hsys, (hx5.block R hR).trans HRb.out.1, ⟨fun h => by have := HRb.out.2.2 R h; omega, by omega, HRb.out.2.1⟩, ⟨rfl, rfl, rfl, Nat.le_refl _⟩, rfl, rfl, recs_nil _ _ _, fun k hk => (by simp [Value.ownBlock] at hk), Nat.le_refl _⟩)
    have HLv := Lib.hid (show Live Tray.fresh ⟨1, K, 0, 0, 1, false⟩ [] from ⟨rfl, rfl, hlv.1, hlv.2, by show 0 < K; omega, by show K ≤ 4096; omega⟩)
    clear hx5 hq hsys hr hlv HO r0 r1 H3 HRb
    go_wp2_with fail
    go_loopw [11, 59] (fun vu vi x => ∃ (j : Nat) (t : Tray (List UInt8)) (s : S) (F : Nat → Prop) (r : List (List UInt8 × Nat)), j ≤ l.length ∧ vi = .int .i64 (j : Int) ∧ Hid (Lp w x p q R K t s F vu r (2 * j) ∧ Live t s r)) (fun _ i _ => l.length - (intOf i).toNat)
    case atStart => exact ⟨0, _, _, _, [], Nat.zero_le _, rfl, HK.out, HLv.out⟩
    case round =>
      clear HK HLv
      obtain ⟨W0, rfl⟩ : ∃ W0, W0 = wr := ⟨_, rfl⟩
      obtain ⟨j, t, s, F, r, hj, rfl, HX⟩ := hrel
      by_cases hlt : j < l.length
      · obtain ⟨g, o, hix, hc⟩ := Ta.byte_at (Ta.IsBytes.below HV.out HX.out.1.sys.below) hlt
        have hb : l[j].toNat < 256 := l[j].toNat_lt
        have hj60 : j < 60 := by have := HL60.out; omega
        generalize l[j].toNat = n at *
        have hmk := make_zer n (by omega) W0
        go_upto_region 13 with fail
        obtain ⟨X, hX⟩ : ∃ X, X = W0.alloc (.cells (Lib.byteCells (zer n)).toArray 5) := ⟨_, rfl⟩
        rw [← hX]
        have hal : Below W0.heap.size W0 X := by rw [hX]; exact (Below.refl _ _).alloc (Nat.le_refl _) _
        have hbk : Blk X W0.heap.size 5 (zer n) := by rw [hX]; exact heap_alloc_new W0 _
        have hAX : W0.heap.size < X.heap.size := hbk.lt
        obtain ⟨A, hA⟩ : ∃ A, A = W0.heap.size := ⟨_, rfl⟩
        have hap := HX.out.1.apart
        rw [← hA] at hal hbk hAX hap ⊢
        have HZ := Lib.hid (And.intro hal (And.intro hbk (And.intro hap (And.intro hA hAX))))
        clear hX hal hbk hmk hix hc hap hA hAX
        go_wp2_with fail
        go_loopw [69] (fun i x => ∃ (k : Nat) (D : List UInt8), k ≤ n ∧ i = .int .i64 (k : Int) ∧ Hid (Turns (fun k => k = A) X x ∧ D.length = n ∧ Blk x A 5 D)) (fun i _ => n - (intOf i).toNat)
        case atStart => exact ⟨0, zer n, Nat.zero_le _, rfl, Turns.refl _ _, List.length_replicate, HZ.out.2.1⟩
        case round =>
          obtain ⟨k, D, hk, rfl, HY⟩ := hrel
          by_cases hkn : k < n
          · have hi := fun W => idx_at A 0 n n k (by omega) (by omega) W
            simp only [Nat.zero_add] at hi
            have hf := HY.out.2.2.free k
            have hc := HY.out.2.2.cell (j := k) (by have := HY.out.2.1; omega)
            have hn := HY.out.2.2.set k (UInt8.ofNat j)
            have hty := HY.out.1.setCell (p := ⟨A, k, none⟩) rfl (.int .u8 ((UInt8.ofNat j).toNat : Nat))
            rw [show ((UInt8.ofNat j).toNat : Int) = (j : Int) by rw [UInt8.toNat_ofNat']; omega] at hn hty
            have HN2 := Lib.hid (And.intro hn hty)
            clear hn hty
            go_wp2_with fail
            go_roundw
            case rel =>
              refine ⟨k + 1, D.set k (UInt8.ofNat j), by omega, by go_num, ?_, by rw [List.length_set]; exact HY.out.2.1, ?_⟩
              · first | exact HN2.out.2 | (have := HN2.out.2; simpa using this)
              · first | exact HN2.out.1 | (have := HN2.out.1; simpa using this)
            case measure => simp [intOf]; omega
          · have hnk : ¬ (k : Int) < (n : Int) := by omega
            obtain rfl : D.length = n := HY.out.2.1
            clear hkn
            go_upto_region 18 with fail
            have hX1 : A ≤ X.heap.size := Nat.le_of_lt HZ.out.2.2.2.2
            have hwy : Below W0.heap.size W0 wr := by
              have h := HZ.out.1.trans (HY.out.1.below hX1 fun k hk => by omega)
              rwa [HZ.out.2.2.2.1] at h
            have hl := HX.out.1.on hwy
            have hst := hl.bytes HZ.out.2.2.1 HY.out.2.2 (by omega)
            have HS := Lib.hid (hl.append HX.out.2 (by omega) (hst.grow (Turns.refl _ _) fun k _ h => .inl (.inl h)) (by omega))
            have HD := Lib.hid (And.intro hl HY.out.2.2)
            have HD2 := Lib.hid (show D.length ≤ 255 by omega)
            clear hwy hl hst HY
            go_wp2_with fail
            refine HS.out.mono ?_
            rintro e y ⟨ht, t', s', F', hl', hF', hcase⟩
            obtain ⟨cd, rfl, hcd⟩ : ∃ cd : Int, e = .returned (.int .i64 cd) ∧ ((cd = 3 ∧ s.count + s.head < parts D.length + s.tail ∧ t' = t ∧ s' = s) ∨ (cd = 0 ∧ Live t' s' (r ++ [(D, 1)]))) := by
              rcases hcase with ⟨g1, g2, g3, g4⟩ | ⟨g2, g3⟩
              · exact ⟨3, g2, .inl ⟨rfl, g1, g3, g4⟩⟩
              · exact ⟨0, g2, .inr ⟨rfl, g3⟩⟩
            have HL := Lib.hid (And.intro hl' (And.intro (HD.out.2.turn ht fun hh => hh.elim HZ.out.2.2.1.tray HZ.out.2.2.1.box) (show ¬ F' A from fun hh => (hF' A hh).elim HZ.out.2.2.1.tray fun h1 => by have := HD.out.2.lt; omega)))
            have HCd := Lib.hid hcd
            clear ht hl' hF' HS hcase hcd
            go_upto_if 81 with fail
            go_cut [11] (fun vu y => ∃ (t2 : Tray (List UInt8)) (s2 : S) (F2 : Nat → Prop) (r2 : List (List UInt8 × Nat)), Hid (Lp w y p q R K t2 s2 F2 vu r2 (2 * j + 2) ∧ Live t2 s2 (r2 ++ [(D, 1)]) ∧ r2.length ≤ 2 * j ∧ Blk y A 5 D ∧ Lp.Apart w q R F2 vu A))
            case first =>
              rcases HCd.out with ⟨rfl, hfull, rfl, rfl⟩ | ⟨rfl, hlive⟩
              · have HC := Lib.hid (Sys.cut HL.out.1.sys)
                have e33 : ((3 : Int) == 3) = true := rfl
                clear hfull
                go_wp2_with fail
                refine HC.out.mono ?_
                rintro e y2 ⟨rfl, hs2, hty⟩
                have hl2 := HL.out.1.cut hs2 hty
                have hb2 := HL.out.2.1.turn hty HZ.out.2.2.1.box
                have hlc := HX.out.2.cut (by have h1 := HX.out.1.geo; have h2 := hk2; omega)
                have hap2 : Lp.Apart w q R F' (.slice none 0 0) A := ⟨HZ.out.2.2.1.old, HL.out.2.2, HZ.out.2.2.1.box, HZ.out.2.2.1.ring, by simp [Value.ownBlock]⟩
                have hst2 := hl2.bytes hap2 hb2 (by have := HD2.out; omega)
                have HS2 := Lib.hid (hl2.append hlc (by omega) (hst2.grow (Turns.refl _ _) fun k _ h => .inl (.inl h)) (by have := HD2.out; omega))
                have HB2 := Lib.hid (And.intro hb2 hap2)
                clear hs2 hty HC hl2 hb2 hlc hap2 hst2
                go_wp2_with fail
                refine HS2.out.mono ?_
                rintro e y3 ⟨ht, t3, s3, F3, hl3, hF3, hcase⟩
                rcases hcase with ⟨hfull, -, -, -⟩ | ⟨rfl, hlive⟩
                · exfalso
                  have h1 := HX.out.1.geo
                  have h2 : parts D.length ≤ 3 := by have := HD2.out; unfold parts; omega
                  omega
                · have e30 : ((0 : Int) != 0) = false := rfl
                  have HL3 := Lib.hid (show Lp w y3 p q R K t3 s3 F3 (.slice none 0 0) [] (2 * j + 2) ∧ Live t3 s3 ([] ++ [(D, 1)]) ∧ ([] : List (List UInt8 × Nat)).length ≤ 2 * j ∧ Blk y3 A 5 D ∧ Lp.Apart w q R F3 (.slice none 0 0) A from
                    ⟨hl3, hlive, Nat.zero_le _, HB2.out.1.turn ht fun hh => hh.elim HB2.out.2.tray HB2.out.2.box, ⟨HZ.out.2.2.1.old, fun hh => (hF3 A hh).elim HB2.out.2.tray fun h1 => by have := HB2.out.1.lt; omega, HZ.out.2.2.1.box, HZ.out.2.2.1.ring, by simp [Value.ownBlock]⟩⟩)
                  clear ht hl3 hF3 hlive HS2 HB2
                  go_wp2_with fail
                  go_meet
                  case rel => exact ⟨t3, s3, F3, [], HL3.out⟩
              · have e30 : ((0 : Int) == 3) = false := rfl
                have HLv := Lib.hid hlive
                clear hlive
                go_wp2_with fail
                go_meet
                case rel => exact ⟨t', s', F', r, HL.out.1.more, HLv.out, HX.out.1.num, HL.out.2.1, HZ.out.2.2.1.old, HL.out.2.2, HZ.out.2.2.1.box, HZ.out.2.2.1.ring, HZ.out.2.2.1.row⟩
            case rest =>
              obtain ⟨t2, s2, F2, r2, HR⟩ := hcut
              have hal : Below wc.heap.size wc (wc.alloc (.cells #[.slice (some ⟨A, 0, none⟩) D.length D.length] tBs)) := (Below.refl _ _).alloc (Nat.le_refl _) _
              have hkz := HR.out.1.on hal
              have hcell : (wc.alloc (.cells #[.slice (some ⟨A, 0, none⟩) D.length D.length] tBs)).cell? ⟨wc.heap.size, 0, none⟩ = some (.slice (some ⟨A, 0, none⟩) D.length D.length) := by rw [Lib.cell_of_heap (heap_alloc_new wc _)]; rfl
              have HW := Lib.hid (And.intro hkz (And.intro hcell (And.intro (hkz.bytes HR.out.2.2.2.2 (HR.out.2.2.2.1.on hal) (by have := HD2.out; omega)) (show (r2.map Prod.fst).length ≤ 1000000 by have := HR.out.2.2.1; rw [List.length_map]; omega))))
              have hlv := HR.out.2.1
              have hnr : (r2 ++ [(D, 1)]).length ≤ 2 * j + 2 := by have := HR.out.2.2.1; rw [List.length_append]; simp only [List.length_singleton]; omega
              have HLv := Lib.hid (And.intro hlv hnr)
              clear hal hkz hcell hlv hnr
              go_wp2_with (at_builtin; refine walk_recs rfl _ _ rfl rfl rfl HW.out.1.rows HW.out.1.sys.below.size HW.out.2.1 HW.out.2.2.1 HW.out.2.2.2 ?_)
              intro v' y3 h5 g5 n5
              have HK3 := Lib.hid (HW.out.1.grow (r' := r2 ++ [(D, 1)]) (by rw [List.map_append]; exact h5) g5 n5 HLv.out.2)
              clear h5 g5 n5 HW HR
              have HLv2 := Lib.hid HLv.out.1
              have HNr := Lib.hid HLv.out.2
              clear HLv HZ HD HX
              generalize r2 ++ [(D, 1)] = r3 at *
              go_wp2_with fail
              have hdr : Below y3.heap.size y3 y3.drew := (Below.refl _ _).drew
              have HKd := Lib.hid (HK3.out.on hdr)
              have HF := Lib.hid (show ∀ x, Below y3.heap.size y3 x → x.cell? ⟨R, 0, none⟩ = some (.int .i64 1) ∧ x.cell? ⟨R, 1, none⟩ = some (.int .i64 (K : Int)) from fun x hx => by
                have h := (hx.block R HK3.out.ltR).trans HK3.out.ring
                exact ⟨by rw [Lib.cell_of_heap h]; rfl, by rw [Lib.cell_of_heap h]; rfl⟩)
              have HHd := Lib.hid (head_any HKd.out.sys.spool)
              have HOp := sys_open (s := ⟨1, K, s2.head, s2.head, 2, false⟩) HKd.out.sys.below HKd.out.sys.tray HKd.out.sys.new rfl rfl (by
                have h1 := HKd.out.sys.fits
                have h3 := HKd.out.geo.2.2.2
                have h4 := h1.head
                refine ⟨⟨?_, ?_, ?_, ?_⟩, ?_, ?_, ?_, ?_⟩ <;> simp <;> omega)
              have hfo := HKd.out.opened HLv2.out
              rw [HKd.out.geo.1, HKd.out.geo.2.1] at hfo
              rw [hfo] at HOp
              simp only [show ((2 : Nat) : Int) = 2 from rfl, show ((1 : Nat) : Int) = 1 from rfl] at HOp
              have HOp := Lib.hid HOp
              clear hdr hfo
              refine Order.beginE (fun x => Below y3.heap.size y3 x) [11] (by kernel_rfl) ?_
              refine Order.readsE_any (idx := [0, 1, 2]) (by kernel_rfl) (Below.refl _ _).drew (fun _ _ _ _ _ h => Order.noPanic_put h) 9 _ _ (by decide +kernel) ?_
              simp only [Order.pick, List.getElem?_toArray, List.getElem?_cons_zero, List.getElem?_cons_succ]
              repeat (first
                | (refine Order.reads_off (by rfl) ?_
                   simp only [Act.put, List.setIfInBounds_toArray, List.set_cons_zero, List.set_cons_succ])
                | (apply Order.reads_on
                   · rfl
                   · intro x hx
                     first
                       | (obtain ⟨h0, h1⟩ := HF.out x hx
                          exact Order.load_at rfl rfl (by assumption))
                       | (go_simp; rfl)
                       | (obtain ⟨h0, h1⟩ := HF.out x hx
                          go_simp; rfl)
                   simp only [Act.put, List.setIfInBounds_toArray, List.set_cons_zero, List.set_cons_succ]))
              refine Order.reads_end ?_
              apply Order.actE (i := 3)
              · rfl
              · decide +kernel
              · rfl
              unfold Oper.wp
              go_simp
              refine Calls.mono HHd.out ?_
              rintro e y4 ⟨rfl, rfl⟩
              refine ⟨(Below.refl _ _).drew, ?_⟩
              apply Order.actE (i := 4)
              · rfl
              · decide +kernel
              · rfl
              unfold Oper.wp
              go_simp
              refine Calls.mono HOp.out ?_
              rintro e y5 ⟨q5, lv, rfl, hb5, hq5, hs5, hr5⟩
              have hb35 : Below y3.heap.size y3 y5 := (Below.refl y3.heap.size y3).drew.trans hb5
              refine ⟨hb35, ?_⟩
              have HB5 := Lib.hid hb35
              have HS5 := Lib.hid (And.intro hs5.spool (And.intro hr5.is (HK3.out.rows.is.below hb35)))
              clear hb5 hs5 hr5 hq5 hb35 HF
              refine Order.readsE_any (idx := [5, 6, 7, 8, 9, 10]) (by kernel_rfl) HB5.out (fun _ _ _ _ _ h => Order.noPanic_put h) 1 _ _ (by decide +kernel) ?_
              simp only [Order.pick, List.getElem?_toArray, List.getElem?_cons_zero, List.getElem?_cons_succ]
              repeat (first
                | (refine Order.reads_off (by rfl) ?_
                   simp only [Act.put, List.setIfInBounds_toArray, List.set_cons_zero, List.set_cons_succ])
                | (apply Order.reads_on
                   · rfl
                   · intro x hx
                     first
                       | (go_simp; rfl)
                       | (fail
                          go_simp; rfl)
                   simp only [Act.put, List.setIfInBounds_toArray, List.set_cons_zero, List.set_cons_succ]))
              refine Order.reads_end ?_
              apply Order.lastE (i := 11)
              · rfl
              · decide +kernel
              · decide
              · rfl
              unfold Oper.wp
              go_simp
              refine Order.doneE (by decide +kernel) ?_ _
              refine NoPanic.normal ?_
              have HSm := Lib.hid (same_any lv v' _ _ HS5.out.2.1 HS5.out.2.2)
              rw [decide_eq_true (rfl : r3.map Prod.fst = r3.map Prod.fst)] at HSm
              go_wp2_with fail
              refine HSm.out.mono ?_
              rintro e y6 ⟨rfl, hb6⟩
              have HT5 := Lib.hid (tail_any (HS5.out.1.on hb6))
              have hk6 := HK3.out.on (HB5.out.trans (hb6.mono HB5.out.size))
              have HT6 := Lib.hid (tail_any hk6.sys.spool)
              have HK6 := Lib.hid hk6
              clear hk6 hb6
              go_wp2_with fail
              refine HT5.out.mono ?_
              rintro e y7 ⟨rfl, rfl⟩
              go_wp2_with fail
              refine HT6.out.mono ?_
              rintro e y8 ⟨rfl, rfl⟩
              go_wp2_with fail
              go_roundw
              case rel => exact ⟨j + 1, t2, s2, F2, r3, by omega, by go_num, HK6.out, HLv2.out⟩
              case measure => simp [intOf]; omega
      · have hnl : ¬ (j : Int) < (l.length : Int) := by omega
        have HE := Lib.hid HX.out.1.sys.below
        clear hlt
        go_wp2_with fail
        go_ret
        exact ⟨rfl, HE.out⟩
end LawS13Laps
end Sp
end Go.Proofs.Ytkfmmdiflbnhgaa
