/-
  TrayPowers, walked: with a power of so many steps just so many are done.
-/
import Derived.Test.YtamomojjodknaaaTaAwake
namespace Go.Proofs.Ytamomojjodknaaa
open Go.RowKit
namespace Ta
open Knot (Turns NewRow)
section
variable {w x y : World} {p n : Nat} {t : Tray (List UInt8)} {F : Nat → Prop}
theorem power_at (h : At w x p n t) (z : Int) : Calls Try.prog 14 #[ptr p, .int .i64 z] x fun e y => e = .returned (.int .i64 (if 0 ≤ z ∧ z ≤ 1099511627776 then 0 else 1)) ∧ At w y p n (if 0 ≤ z ∧ z ≤ 1099511627776 then t.power z else t) := by
  refine (power_any z h.is).mono ?_
  rintro e y ⟨rfl, ht, hi⟩
  exact ⟨rfl, h.step (Below.refl _ _) (ht.mono fun _ _ e => by rw [e]; exact h.is.fp) hi.grow⟩
theorem read_at (h : At w x p n t) (k : Int) (h0 : 0 ≤ k) (h1 : k < n) : Calls Try.prog 21 #[ptr p, .int .i64 k] x fun e y => e = .returned (.tuple #[.slice (some ⟨x.heap.size, 0, none⟩) 128 128, .int .i64 0]) ∧ At w y p n t ∧ y.heap[x.heap.size]? = some (.cells (sec (t.read nul k)) tSe (0, 0)) ∧ Below x.heap.size x y := by
  refine (tread_any k h.is h0 h1).mono ?_
  rintro e y ⟨rfl, hx, hb⟩
  exact ⟨rfl, h.on hb, hx, hb⟩
/-- An act out of a list of acts. -/
theorem act_at {v : Value} {l : List Act} (h : IsActs w v l) (hbl : Below w.heap.size w x) {j : Nat} (hj : j < l.length) : ∃ g q, (∀ W, (Instr.indexAt 22 v (.int .i64 (j : Int))).run Try.prog W = .ok (.pointer (some ⟨g, q, none⟩)) W) ∧
    ∃ ob oc cb cc, x.cell? ⟨g, q, none⟩ = some (.int .i64 l[j].kind) ∧ x.cell? ⟨g, q + 1, none⟩ = some (.int .i64 l[j].at_) ∧ x.cell? ⟨g, q + 2, none⟩ = some (.slice ob l[j].b.length cb) ∧ x.cell? ⟨g, q + 3, none⟩ = some (.slice oc l[j].c.length cc) ∧
      IsBytes w (.slice ob l[j].b.length cb) l[j].b ∧ IsFlags w (.slice oc l[j].c.length cc) l[j].c := by
  obtain ⟨ao, cap, rfl, h1, h2, h3⟩ := h
  obtain ⟨g, o, rfl, hc⟩ := h3 (fun e => by rw [e] at hj; simp at hj)
  obtain ⟨cs, ⟨vb, vc, rfl, hb, hf, -⟩, hx⟩ := hc j hj
  refine ⟨g, o + j * 4, fun W => ?_, ?_⟩
  · have hz : ∀ w, (sizeOf (Try.prog.elem 22)).run Try.prog w = .ok 4 w := fun w => by kernel_rfl
    have : l.length ≤ 9223372036854775807 := Nat.le_trans h1 (Nat.le_trans h2 (by decide))
    rw [run_indexAt_slice W _ _ _ _ _ _ Try.underlying22, if_pos ⟨by omega, by omega⟩, hz]
    have e : ((j : Int)).toNat = j := by omega
    simp only [Result.andThen_ok, e, Addr.add_lit]
  · obtain ⟨ob, cb, rfl, r1⟩ := hb
    obtain ⟨oc, cc, rfl, r2⟩ := hf
    have hx' : ∀ j' u, [Value.int .i64 l[j].kind, .int .i64 l[j].at_, .slice ob l[j].b.length cb, .slice oc l[j].c.length cc][j']? = some u → x.cell? ⟨g, o + j * 4 + j', none⟩ = some u := fun j' u hu => (hbl.cell (World.block_lt_of_cell? w _ (hx j' u hu))).trans (hx j' u hu)
    have x0 := hx' 0 _ rfl
    rw [Nat.add_zero] at x0
    exact ⟨ob, oc, cb, cc, x0, hx' 1 _ rfl, hx' 2 _ rfl, hx' 3 _ rfl, ⟨ob, cb, rfl, r1⟩, ⟨oc, cc, rfl, r2⟩⟩
theorem acts_len {v : Value} {l : List Act} (h : IsActs w v l) : ∃ ao cap, v = .slice ao l.length cap ∧ l.length ≤ 9223372036854775807 := by
  obtain ⟨ao, cap, rfl, h1, h2, -⟩ := h
  exact ⟨ao, cap, rfl, Nat.le_trans h1 (Nat.le_trans h2 (by decide))⟩
end
abbrev tAc : TypeId := 36
/-- A step that was asked for: what a write or a flush makes of a power. -/
structure Step1 (t t' : Tray (List UInt8)) : Prop where
  left : t'.left = max (t.left - 1) 0
  dark : t'.dark = (decide (t.left = 0) || t.dark)
  few : t'.cache.length ≤ t.cache.length + 1
theorem write_step {t : Tray (List UInt8)} (h : 0 ≤ t.left) (k : Int) (h0 : 0 ≤ k) (h1 : k < 4) (u : UInt8) : (t.write 4 k [u]).2 = (if t.left = 0 then 20 else 0) ∧ Step1 t (t.write 4 k [u]).1 := by
  have e : t.write 4 k [u] = (t.put k (pad [u]), if t.left = 0 then 20 else 0) := by
    unfold Tray.write Tray.put
    rw [if_neg (by simp; omega)]
    by_cases h0 : t.left = 0
    · rw [if_pos h0, if_pos h0, if_pos h0]
    · rw [if_neg h0, if_neg h0, if_neg h0]
  rw [e]
  obtain ⟨h2, h3⟩ := Tray.put_steps h k (pad [u])
  refine ⟨rfl, h2, h3, ?_⟩
  unfold Tray.put
  split
  · show t.cache.length ≤ _
    omega
  · simp
theorem flush_step {t : Tray (List UInt8)} (h : 0 ≤ t.left) : Step1 t t.flush := by
  obtain ⟨h2, h3⟩ := Tray.flush_steps h
  refine ⟨h2, h3, ?_⟩
  unfold Tray.flush
  split
  · show t.cache.length ≤ _
    omega
  · simp

namespace LawT12P
set_option maxHeartbeats 16000000 in
set_option maxRecDepth 100000 in
theorem walk (z : Int) (l : List Act) (v : Value) (w : World) (hz : (Lit.int .u8 z).wf = true) (hv : IsActs w v l) :
    Calls Try.prog 5 #[.int .u8 z, v] w fun e x => e = .returned (.bool true) ∧ Below w.heap.size w x := by
  have hz' : 0 ≤ z ∧ z ≤ 255 := by simp [Lit.wf, IntKind.min, IntKind.max, IntKind.signed, IntKind.bits] at hz; exact hz
  have hwz : IntKind.i64.wrap z = z := by rw [IntKind.wrap_i64] <;> omega
  have HV := Lib.hid hv
  obtain ⟨ao, cap, rfl, hlen⟩ := acts_len hv
  have HN := Lib.hid (new_any 4 (by omega) w)
  clear hv hz
  go_enter Try.func5, Try.ntmps5
  go_wp2_with fail
  refine HN.out.mono ?_
  rintro e x1 ⟨p, rfl, hb, hi⟩
  have H1 := Lib.hid (At.made (Below.refl _ w) hi hb)
  clear hb hi HN
  go_wp2_with fail
  refine (awake_any x1).mono ?_
  rintro e x2 ⟨rfl, hb⟩
  have H2 := Lib.hid (H1.out.on hb)
  clear hb H1
  by_cases h60 : 60 < l.length
  · have e60 : ((60 : Int) < (l.length : Int)) := by omega
    go_wp2_with fail
    refine (awake_any x2).mono ?_
    rintro e x3 ⟨rfl, hb⟩
    have H3 := Lib.hid (H2.out.on hb).below
    clear hb
    go_wp2_with fail
    go_ret
    exact ⟨rfl, H3.out⟩
  · have e60 : ¬ ((60 : Int) < (l.length : Int)) := by omega
    have HP := Lib.hid (power_at H2.out z)
    simp only [show 0 ≤ z ∧ z ≤ 1099511627776 by omega, and_self, if_true] at HP
    go_wp2_with fail
    refine HP.out.mono ?_
    rintro e x3 ⟨rfl, h3⟩
    have H3 := Lib.hid h3
    clear h3 HP H2
    go_wp2_with fail
    go_loopw [7, 44] (fun vl vi y => ∃ (j : Nat) (t : Tray (List UInt8)), j ≤ l.length ∧ vi = .int .i64 (j : Int) ∧ vl = .int .i64 t.left ∧ Hid (At w y p 4 t ∧ t.cache.length ≤ j ∧ (t.left ≠ 0 → t.dark = false)) ∧ 0 ≤ t.left ∧ t.left ≤ 255) (fun _ vi _ => l.length - (intOf vi).toNat)
    case atStart => exact ⟨0, Tray.fresh.power z, by omega, rfl, rfl, ⟨H3.out, Nat.le_refl _, fun _ => rfl⟩, hz'⟩
    case round =>
      obtain ⟨j, t, hj, rfl, rfl, HT, hl0, hl1⟩ := hrel
      clear H3 hwz hz'
      have hj60 : j ≤ 60 := by omega
      by_cases hlt : j < l.length
      · obtain ⟨g, q, hix, ob, oc, cb, cc, a0, a1, a2, a3, -, -⟩ := act_at HV.out HT.out.1.below hlt
        have HC := Lib.hid (show t.cache.length ≤ 100000 from Nat.le_trans HT.out.2.1 (by omega))
        generalize l[j] = ac at *
        obtain ⟨kd, at_, bb, fc⟩ := ac
        simp only at a0 a1 a2 a3
        obtain ⟨X, hX⟩ : ∃ X, X = wr.alloc (.cells #[.int .i64 kd, .int .i64 at_, .slice ob bb.length cb, .slice oc fc.length cc] tAc) := ⟨_, rfl⟩
        have hbx : Below wr.heap.size wr X := by rw [hX]; exact (Below.refl _ _).alloc (Nat.le_refl _) _
        have HA := Lib.hid (HT.out.1.on hbx)
        have HDk := Lib.hid HT.out.2
        have hbox : X.heap[wr.heap.size]? = some (.cells #[.int .i64 kd, .int .i64 at_, .slice ob bb.length cb, .slice oc fc.length cc] tAc (0, 0)) := by rw [hX]; exact heap_alloc_new wr _
        have q0 : X.cell? ⟨wr.heap.size, 0, none⟩ = some (.int .i64 kd) := by rw [Lib.cell_of_heap hbox]; rfl
        have q1 : X.cell? ⟨wr.heap.size, 1, none⟩ = some (.int .i64 at_) := by rw [Lib.cell_of_heap hbox]; rfl
        clear hbx HT hbox
        go_upto_region 8 with fail
        rw [← hX]
        clear hX a0 a1 a2 a3 hix
        by_cases hk : kd = 1
        · have ek : (kd == 1) = true := by simp [hk]
          have hcv := conv_byte
          obtain ⟨k, hkd, hk4⟩ : ∃ k, wrap64 ((IntKind.u64.wrap at_).tmod 4) = k ∧ 0 ≤ k ∧ k < 4 := by
            have hu := wrap_u64_nonneg at_
            generalize IntKind.u64.wrap at_ = u at hu
            have h1 := Int.tmod_lt_of_pos u (b := 4) (by omega)
            have h2 : 0 ≤ u.tmod 4 := Int.tmod_nonneg 4 hu
            refine ⟨_, rfl, ?_, ?_⟩ <;> (unfold wrap64; omega)
          have hws' := write_step hl0 k hk4.1 hk4.2 120
          have HW := Lib.hid (put_one k 120 120 rfl HA.out HC.out)
          rw [hws'.1] at HW
          have HWS := Lib.hid hws'.2
          clear hk hws'
          go_wp2_with fail
          refine HW.out.mono ?_
          clear hcv hkd
          rintro e y ⟨rfl, h⟩
          have HS := Lib.hid (And.intro h (HWS.out))
          clear h
          by_cases h0 : t.left = 0
          · have hd := HS.out.2.dark
            have hl := HS.out.2.left
            rw [h0] at hd hl
            simp only [decide_true, Bool.true_or] at hd
            have hl' : (t.write 4 k [120]).1.left = 0 := by rw [hl]; rfl
            have HK := Lib.hid (And.intro hl' (And.intro hd HDk.out.1))
            rw [if_pos h0, h0]
            have HG := Lib.hid h0
            clear hd hl hl' h0
            go_wp2_with fail
            refine (dark_any HS.out.1.is).mono ?_
            rintro e y' ⟨rfl, rfl⟩
            rw [HK.out.2.1]
            go_wp2_with fail
            refine (read_at HS.out.1 3 (by decide) (by decide)).mono ?_
            rintro e y2 ⟨rfl, h, -, -⟩
            have HR := Lib.hid h
            clear h
            go_wp2_with fail
            go_roundw
            case rel => exact ⟨j + 1, (t.write 4 k [120]).1, by omega, by go_num, by rw [HK.out.1], ⟨HR.out, Nat.le_trans HS.out.2.few (by have := HK.out.2.2; omega), fun hn => absurd HK.out.1 hn⟩, by rw [HK.out.1]; decide, by rw [HK.out.1]; decide⟩
            case measure => simp [intOf]; omega
          · have hd := HS.out.2.dark
            have hl := HS.out.2.left
            rw [show decide (t.left = 0) = false by simp [h0], Bool.false_or, HDk.out.2 h0] at hd
            rw [show max (t.left - 1) 0 = t.left - 1 by omega] at hl
            have HK := Lib.hid (And.intro hl (And.intro hd HDk.out.1))
            rw [if_neg h0]
            have hpos : 0 < t.left := by omega
            have hz0 : (t.left == 0) = false := by simp [h0]
            have hws : IntKind.i64.wrap (t.left - 1) = t.left - 1 := by rw [IntKind.wrap_i64] <;> omega
            have hmx : max (t.left - 1) 0 = t.left - 1 := by omega
            clear hd hl h0
            go_wp2_with fail
            refine (dark_any HS.out.1.is).mono ?_
            rintro e y' ⟨rfl, rfl⟩
            rw [HK.out.2.1]
            go_wp2_with fail
            refine (read_at HS.out.1 3 (by decide) (by decide)).mono ?_
            rintro e y2 ⟨rfl, h, -, -⟩
            have HR := Lib.hid h
            clear h
            go_wp2_with fail
            go_roundw
            case rel => exact ⟨j + 1, (t.write 4 k [120]).1, by omega, by go_num, by rw [HK.out.1], ⟨HR.out, Nat.le_trans HS.out.2.few (by have := HK.out.2.2; omega), fun _ => HK.out.2.1⟩, by rw [HK.out.1]; omega, by rw [HK.out.1]; omega⟩
            case measure => simp [intOf]; omega
        · have ek : (kd == 1) = false := by simp [hk]
          have HW := Lib.hid (flush_at HA.out HC.out)
          have HWS := Lib.hid (flush_step hl0)
          clear hk
          go_wp2_with fail
          refine HW.out.mono ?_
          rintro e y ⟨rfl, h⟩
          have HS := Lib.hid (And.intro h (HWS.out))
          clear h
          by_cases h0 : t.left = 0
          · have hd := HS.out.2.dark
            have hl := HS.out.2.left
            rw [h0] at hd hl
            simp only [decide_true, Bool.true_or] at hd
            have hl' : t.flush.left = 0 := by rw [hl]; rfl
            have HK := Lib.hid (And.intro hl' (And.intro hd HDk.out.1))
            rw [if_pos h0, h0]
            have HG := Lib.hid h0
            clear hd hl hl' h0
            go_wp2_with fail
            refine (dark_any HS.out.1.is).mono ?_
            rintro e y' ⟨rfl, rfl⟩
            rw [HK.out.2.1]
            go_wp2_with fail
            refine (read_at HS.out.1 3 (by decide) (by decide)).mono ?_
            rintro e y2 ⟨rfl, h, -, -⟩
            have HR := Lib.hid h
            clear h
            go_wp2_with fail
            go_roundw
            case rel => exact ⟨j + 1, t.flush, by omega, by go_num, by rw [HK.out.1], ⟨HR.out, Nat.le_trans HS.out.2.few (by have := HK.out.2.2; omega), fun hn => absurd HK.out.1 hn⟩, by rw [HK.out.1]; decide, by rw [HK.out.1]; decide⟩
            case measure => simp [intOf]; omega
          · have hd := HS.out.2.dark
            have hl := HS.out.2.left
            rw [show decide (t.left = 0) = false by simp [h0], Bool.false_or, HDk.out.2 h0] at hd
            rw [show max (t.left - 1) 0 = t.left - 1 by omega] at hl
            have HK := Lib.hid (And.intro hl (And.intro hd HDk.out.1))
            rw [if_neg h0]
            have hpos : 0 < t.left := by omega
            have hz0 : (t.left == 0) = false := by simp [h0]
            have hws : IntKind.i64.wrap (t.left - 1) = t.left - 1 := by rw [IntKind.wrap_i64] <;> omega
            have hmx : max (t.left - 1) 0 = t.left - 1 := by omega
            clear hd hl h0
            go_wp2_with fail
            refine (dark_any HS.out.1.is).mono ?_
            rintro e y' ⟨rfl, rfl⟩
            rw [HK.out.2.1]
            go_wp2_with fail
            refine (read_at HS.out.1 3 (by decide) (by decide)).mono ?_
            rintro e y2 ⟨rfl, h, -, -⟩
            have HR := Lib.hid h
            clear h
            go_wp2_with fail
            go_roundw
            case rel => exact ⟨j + 1, t.flush, by omega, by go_num, by rw [HK.out.1], ⟨HR.out, Nat.le_trans HS.out.2.few (by have := HK.out.2.2; omega), fun _ => HK.out.2.1⟩, by rw [HK.out.1]; omega, by rw [HK.out.1]; omega⟩
            case measure => simp [intOf]; omega
      · have hne : ¬ (j : Int) < (l.length : Int) := by omega
        clear hlt
        go_wp2_with fail
        refine (power_at HT.out.1 (-1)).mono ?_
        rintro e y1 ⟨rfl, h⟩
        have HE1 := Lib.hid (show At w y1 p 4 t from h)
        clear h
        go_wp2_with fail
        refine (power_at HE1.out 1099511627777).mono ?_
        rintro e y2 ⟨rfl, h⟩
        have HE2 := Lib.hid (show At w y2 p 4 t from h)
        clear h
        go_wp2_with fail
        refine (power_at HE2.out 1).mono ?_
        rintro e y3 ⟨rfl, h⟩
        have HE3 := Lib.hid (show At w y3 p 4 (t.power 1) from h)
        clear h
        go_wp2_with fail
        refine (dark_any HE3.out.is).mono ?_
        rintro e y4 ⟨rfl, rfl⟩
        rw [show (t.power 1).dark = false from rfl]
        go_wp2_with fail
        go_ret
        exact ⟨rfl, HE3.out.below⟩
end LawT12P
end Ta
end Go.Proofs.Ytamomojjodknaaa
