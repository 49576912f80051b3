/-
  Layer 14: the document's example, walked.
-/
import Derived.Test.YtkfmmdiflbnhgaaHoRun
namespace Go.Proofs.Ytkfmmdiflbnhgaa
set_option maxRecDepth 100000
open Go.RowKit
open Knot (Turns)
open Ta (IsBytes IsFlags Stay sec nul ptr IsT C5 Tray Made conv_byte)
open Sp (S SpB found Recs IsRecs rec_at bytes_str)
namespace Ho
/-- A byte in a block of its own. -/
theorem one_byte (W : World) (u : UInt8) (z : Int) (hz : z = (u.toNat : Int)) {F : Nat → Prop} (hF : ∀ k, F k → k < W.heap.size) : Stay F (W.alloc (.cells #[.int .u8 z] 5 (1, 2))) fun x => IsBytes x (.slice (some ⟨W.heap.size, 0, none⟩) 1 1) [u] := by
  subst hz
  exact Sp.new_bytes W [u] (1, 2) (by show 1 ≤ 100000; omega) hF
theorem none_flags (w : World) : IsFlags w (.slice none 0 0) [] := ⟨none, 0, rfl, Nat.le_refl _, Nat.zero_le _, fun h => absurd rfl h⟩
set_option maxHeartbeats 16000000 in
set_option maxRecDepth 100000 in
theorem awake_any (w : World) : Calls Try.prog 37 #[] w fun e x => e = .returned (.bool true) ∧ Below w.heap.size w x := by
  have hp66 : (66 : Int) = ((66 : Nat) : Int) := rfl
  have HN := Lib.hid (Ta.new_any 66 (by omega) w)
  rw [← hp66] at HN
  clear hp66
  have h00 : ((0 : Int) != 0) = false := rfl
  have hcv := conv_byte
  go_enter Try.func37, Try.ntmps37
  go_wp2_with fail
  refine HN.out.mono ?_
  rintro e x1 ⟨p, rfl, hb, hi⟩
  have hal : Below x1.heap.size x1 (x1.alloc (.cells #[.int .u8 97] 5 (1, 2))) := (Below.refl _ _).alloc (Nat.le_refl _) _
  have HL := Lib.hid (laid_any (hb.trans (hal.mono hb.size)) (hi.below hal) (fun k hk => hk.1) (.slice (some ⟨x1.heap.size, 0, none⟩) 1 1) [97] (one_byte x1 97 97 rfl fun k hk => hk.2) (by decide) (by decide))
  clear hb hi hal HN
  go_wp2_with fail
  refine HL.out.mono ?_
  rintro e x2 ⟨q, h, F, rfl, hs, hf, hlf, -, -⟩
  have HS := Lib.hid (And.intro hs (And.intro hf hlf))
  have HMo := Lib.hid hs.most
  rw [show qu 66 * 128 = 2048 from rfl, show ((2048 : Nat) : Int) = 2048 from rfl] at HMo
  clear hs hf hlf HL
  have h20 : ((2048 : Int) != 2048) = false := rfl
  go_wp2_with fail
  refine HMo.out.mono ?_
  rintro e x3 ⟨rfl, hx3⟩
  have HS3 := Lib.hid (HS.out.1.on hx3)
  have HRo := Lib.hid (HS3.out.room)
  have hs0 : (hlay 66 Tray.fresh [97]).s = ringS 66 0 1 := by
    show { ringS 66 0 1 with tail := (Sp.found Tray.fresh (ringS 66 0 1)).2 } = _
    rw [Sp.found_fresh]
  rw [hs0, show ((ringS 66 0 1).count : Int) - (((ringS 66 0 1).tail : Int) - ((ringS 66 0 1).head : Int)) = 32 from rfl] at HRo
  have HS0 := Lib.hid hs0
  clear hx3 HMo hs0
  have h32 : ((32 : Int) != 32) = false := rfl
  go_wp2_with fail
  refine HRo.out.mono ?_
  rintro e x4 ⟨rfl, hx4⟩
  have hal : Below x4.heap.size x4 (x4.alloc (.cells #[.int .u8 98] 5 (1, 2))) := (Below.refl _ _).alloc (Nat.le_refl _) _
  have hs5 := (HS3.out.on hx4).on hal
  have HK := Lib.hid (hs5.keep (.slice (some ⟨x4.heap.size, 0, none⟩) 1 1) [98] (one_byte x4 98 98 rfl fun k hk => by have := (HS3.out.on hx4).sys.tray.low k hk; exact this) (by decide) (by rw [HS.out.2.1.live.cache]; decide) (by rw [HS0.out]; decide))
  have HB5 := Lib.hid hs5
  clear hx4 hal hs5 HRo
  go_wp2_with fail
  refine HK.out.mono ?_
  rintro e x5 ⟨rfl, F5, hs6, -, -⟩
  obtain ⟨c1, c2, c3, c4⟩ := firm_keep (b := [98]) HS.out.2.1 (by decide) (fun k => by
    have := hs6.lens
    rw [show (hkeep (hlay 66 Tray.fresh [97]) [98]).1.t = (Sp.append (hlay 66 Tray.fresh [97]).s [98] (hlay 66 Tray.fresh [97]).t).1 from by rw [hkeep, if_neg (show ¬ (hlay 66 Tray.fresh [97]).torn = true from by decide)]] at this
    exact this _) HS.out.2.2 (by rw [HS0.out]; decide)
  rw [c1]
  have hrd := c2.ready (by rw [c3, HS0.out]; decide) []
  have HLo := Lib.hid (Ta.lose_any hs6.sys.tray (.slice none 0 0) [] (none_flags x5) (by rw [c2.live.cache]; decide))
  have HQ := Lib.hid (And.intro hs6.sys.below hrd)
  clear hs6 c1 c2 c3 c4 hrd HK HB5 HS3
  go_wp2_with fail
  refine HLo.out.mono ?_
  rintro e x6 ⟨p', rfl, -, hb6, hi6⟩
  have HOp := Lib.hid (opened_any (HQ.out.1.trans (hb6.mono HQ.out.1.size)) hi6 (fun k hk => by have := hk.1; have := HQ.out.1.size; omega) HQ.out.2 (by decide) rfl)
  have HB6 := Lib.hid (HQ.out.1.trans (hb6.mono HQ.out.1.size))
  clear hb6 hi6 HLo
  go_wp2_with fail
  refine HOp.out.mono ?_
  rintro e x7 ⟨q7, h7, F7, G7, iv, rv, rfl, hs7, -, -, -, -, -, -, -, hiv, hst, hrc, -, -⟩
  have hib := hst.now
  have hrs := hrc.is
  have HB7 := Lib.hid hs7.sys.below
  clear hs7 hst hrc HOp
  simp only [List.nil_append, List.map_cons, List.map_nil] at hrs
  obtain ⟨ia, im, ic, rfl⟩ := hiv
  have hcs := bytes_str hib
  obtain ⟨ra, rc, rfl⟩ := hrs.slice
  obtain ⟨g, o, u, hix, hcu, hub⟩ := rec_at hrs (i := 0) (by decide)
  have hus := bytes_str hub
  have hstr : ∀ l : List UInt8, (Ta.str l).toList = l := fun l => by
    rw [ByteArray.toList_eq]
    simp [Ta.str]
  have hq1 : ((Ta.str [97]).toList == [97]) = true := by rw [hstr]; decide
  have hq2 : ((Ta.str [98]).toList == [98]) = true := by rw [hstr]; decide
  clear hstr
  have h00' : ((0 : Int) == 0) = true := rfl
  change ∀ W, (Instr.indexAt Sp.tBss (.slice ra 1 rc) (.int .i64 0)).run Try.prog W = .ok (.pointer (some ⟨g, o, none⟩)) W at hix
  go_wp2_with fail
  go_ret
  exact ⟨rfl, HB7.out⟩
end Ho
end Go.Proofs.Ytkfmmdiflbnhgaa
