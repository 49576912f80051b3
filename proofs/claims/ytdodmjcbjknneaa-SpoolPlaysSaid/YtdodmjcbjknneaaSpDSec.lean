/-
  Layer 13's document: its Sector.
-/
import Derived.Test.YtdodmjcbjknneaaSpDPut
import Derived.Test.YtdodmjcbjknneaaSpDSum
import Derived.Test.YtdodmjcbjknneaaOrd2
namespace Go.Proofs.Ytdodmjcbjknneaa
set_option maxRecDepth 100000
open Go.RowKit
open Knot (Turns)
open Ta (IsBytes sec nul tSec)
namespace Sp
theorem fil_set {l : List UInt8} (u : UInt8) (h : l.length < 128) : (fil l).set l.length u = fil (l ++ [u]) := by
  rw [← spl_one (fil l) l.length u (by rw [fil_len (by omega)]; omega), spl_fil rfl]
/-- Two blocks of 128 bytes: the one that is told, the one that is filled. -/
structure Bb (w x : World) (R g : Nat) (D : List UInt8) : Prop where
  below : Below w.heap.size w x
  res : Blk x R tSec nul
  own : Blk x g tSec D
  low : w.heap.size ≤ R ∧ R < g
section
variable {w x y : World} {R g : Nat} {D : List UInt8}
theorem Bb.on (h : Bb w x R g D) (hb : Below x.heap.size x y) : Bb w y R g D := ⟨h.below.trans (hb.mono h.below.size), h.res.on hb, h.own.on hb, h.low⟩
theorem Bb.set (h : Bb w x R g D) (j : Nat) (u : UInt8) : Bb w (x.setCell ⟨g, j, none⟩ (.int .u8 (u.toNat : Nat))) R g (D.set j u) := by
  have ht : Turns (fun k => k = g) x (x.setCell ⟨g, j, none⟩ (.int .u8 (u.toNat : Nat))) := (Turns.refl (fun k => k = g) x).setCell (p := ⟨g, j, none⟩) rfl _
  have := h.low
  exact ⟨h.below.trans (ht.below h.below.size fun k e => by omega), h.res.turn ht (by omega), h.own.set j u, h.low⟩
theorem Bb.row (h : Bb w x R g D) (E : List UInt8) : Bb w (x.setRow g (sec E)) R g E := by
  have ht := turn_row x g (sec E)
  have := h.low
  exact ⟨h.below.trans (ht.below h.below.size fun k e => by omega), h.res.turn ht (by omega), h.own.row E, h.low⟩
end
set_option maxHeartbeats 8000000 in
set_option maxRecDepth 100000 in
theorem dsec_any (e n p o : Nat) (v : Value) (own : List UInt8) (w : World) (hv : IsBytes w v own) (hl : own.length ≤ 108) (he : e < 9223372036854775808) (hn : n < 9223372036854775808) (hp : p < 9223372036854775808) (ho : o < 9223372036854775808) :
    Calls Try.prog 39 #[.int .i64 (e : Int), .int .i64 (n : Int), .int .i64 (p : Int), .int .i64 (o : Int), v] w fun r x => r = .returned (.agg (sec (secB e n p o own))) ∧ Below w.heap.size w x := by
  have HV := Lib.hid hv
  obtain ⟨ao, cap, rfl, -, -, -⟩ := hv
  have HN := Lib.hid (And.intro hl (And.intro he (And.intro hn (And.intro hp ho))))
  clear he hn hp ho
  have hz := Ta.zero_sec
  have hnl : nul.length = 128 := rfl
  have hsz := @Ta.sec_size
  have hsc := fun W b hb => Ta.store_sec W b nul nul hb rfl rfl
  go_enter Try.func39, Try.ntmps39
  have hs0 : (sec nul).size = 128 := rfl
  go_upto_region 2 with fail
  clear hs0 hsc hz hsz
  obtain ⟨X, hX⟩ : ∃ X, X = (w.alloc (.cells (sec nul) tSec)).alloc (.cells (sec nul) tSec) := ⟨_, rfl⟩
  rw [← hX]
  have hX0 : Bb w X w.heap.size (w.heap.size + 1) nul := by
    rw [hX]
    have b1 := (Below.refl (w.alloc (.cells (sec nul) tSec)).heap.size (w.alloc (.cells (sec nul) tSec))).alloc (Nat.le_refl _) (.cells (sec nul) tSec)
    have i2 := heap_alloc_new (w.alloc (.cells (sec nul) tSec)) (.cells (sec nul) tSec)
    rw [show (w.alloc (.cells (sec nul) tSec)).heap.size = w.heap.size + 1 by simp] at i2
    exact ⟨((Below.refl _ _).alloc (Nat.le_refl _) _).alloc (by simp) _, Blk.on (heap_alloc_new w _) b1, i2, by omega⟩
  clear hX
  have hR : w.heap.size = w.heap.size := rfl
  revert hX0
  generalize w.heap.size + 1 = g
  generalize hR0 : w.heap.size = R
  clear hR
  intro hX0
  have q0 := hX0.own.cell (j := 0) (by decide)
  have f0 := hX0.own.free 0
  have H2 := Lib.hid (show Bb w (X.setCell ⟨g, 0, none⟩ (.int .u8 ((83 : UInt8).toNat : Nat))) R g (fil [83]) from by
    have := hX0.set 0 83
    rwa [show nul.set 0 83 = fil [83] from fil_start] at this)
  clear hX0
  go_upto_region 3 with fail
  clear q0 f0
  change Code.wp _ _ _ _ (X.setCell ⟨g, 0, none⟩ (.int .u8 ((83 : UInt8).toNat : Nat)))
  generalize X.setCell ⟨g, 0, none⟩ (.int .u8 ((83 : UInt8).toNat : Nat)) = Y2 at *
  have HP1 := Lib.hid (fun x => dpb_any (fil [83]) 1 4 e (fil_len (by decide)) (by omega) (by omega) HN.out.2.1 x)
  have HP2 := Lib.hid (fun x => dpb_any (fil (h1 e)) 5 6 n (fil_len (by rw [h1_len]; omega)) (by omega) (by omega) HN.out.2.2.1 x)
  have HP3 := Lib.hid (fun x => dpb_any (fil (h2 e n)) 11 2 p (fil_len (by rw [h2_len]; omega)) (by omega) (by omega) HN.out.2.2.2.1 x)
  have HP4 := Lib.hid (fun x => dpb_any (fil (h3 e n p)) 13 2 o (fil_len (by rw [h3_len]; omega)) (by omega) (by omega) HN.out.2.2.2.2 x)
  rw [put1] at HP1
  rw [put2] at HP2
  rw [put3] at HP3
  rw [put4] at HP4
  go_wp2_with (refine wl_load rfl _ rfl rfl H2.out.own (fil_len (by decide)) ?_)
  refine (HP1.out Y2).mono ?_
  rintro r z1 ⟨rfl, hb1⟩
  have H3 := Lib.hid (H2.out.on hb1)
  clear hb1 H2
  go_wp2_with fail
  refine (HP2.out z1).mono ?_
  rintro r z2 ⟨rfl, hb1⟩
  have H4 := Lib.hid (H3.out.on hb1)
  clear hb1 H3
  go_wp2_with fail
  refine (HP3.out z2).mono ?_
  rintro r z3 ⟨rfl, hb1⟩
  have H5 := Lib.hid (H4.out.on hb1)
  clear hb1 H4
  go_wp2_with fail
  refine (HP4.out z3).mono ?_
  rintro r z4 ⟨rfl, hb1⟩
  have H6 := Lib.hid (H5.out.on hb1)
  clear hb1 H5 HP1 HP2 HP3 HP4
  go_upto_region 4 with (refine wl_store rfl _ _ rfl rfl rfl H6.out.own (fil_len (by decide)) (fil_len (by rw [h4_len]; omega)) ?_)
  have H7 := Lib.hid (H6.out.row (fil (h4 e n p o)))
  clear H6
  generalize z4.setRow g (sec (fil (h4 e n p o))) = Y4 at *
  have q0 := H7.out.own.cell (j := 15) (by rw [fil_len (by rw [h4_len]; omega)]; omega)
  have f0 := H7.out.own.free 15
  have hu : (((UInt8.ofNat own.length).toNat : Nat) : Int) = (own.length : Int) := by rw [UInt8.toNat_ofNat']; omega
  have H8 := Lib.hid (show Bb w (Y4.setCell ⟨g, 15, none⟩ (.int .u8 (own.length : Int))) R g (fil (h5 e n p o own)) from by
    have := H7.out.set 15 (UInt8.ofNat own.length)
    rwa [hu, ← h4_len (e := e) (n := n) (p := p) (o := o), fil_set _ (by rw [h4_len]; omega), h4_len] at this)
  clear H7
  clear hu
  go_upto_region 5 with fail
  clear q0 f0
  generalize Y4.setCell ⟨g, 15, none⟩ (.int .u8 (own.length : Int)) = Y5 at *
  go_wp2_with fail
  go_loopw [30] (fun i x => ∃ j : Nat, j ≤ own.length ∧ i = .int .i64 (j : Int) ∧ Hid (Bb w x R g (fil (h5 e n p o own ++ own.take j)))) (fun i _ => own.length - (intOf i).toNat)
  case atStart => exact ⟨0, by omega, rfl, by rw [List.take_zero, List.append_nil]; exact H8.out⟩
  case round =>
    obtain ⟨j, hj, rfl, HX⟩ := hrel
    by_cases hlt : j < own.length
    · obtain ⟨b, q, hix, hc⟩ := Ta.byte_at (HV.out.below HX.out.below) hlt
      have h5l : (h5 e n p o own ++ own.take j).length = 16 + j := by rw [List.length_append, h5_len, List.length_take]; omega
      obtain ⟨uu, q0⟩ : ∃ uu, wr.cell? ⟨g, 16 + j, none⟩ = some (.int .u8 uu) := ⟨_, HX.out.own.cell (j := 16 + j) (by rw [fil_len (by rw [h5l]; omega)]; omega)⟩
      have f0 := HX.out.own.free (16 + j)
      have HNx := Lib.hid (show Bb w (wr.setCell ⟨g, 16 + j, none⟩ (.int .u8 (own[j].toNat : Nat))) R g (fil (h5 e n p o own ++ own.take (j + 1))) from by
        have := HX.out.set (16 + j) own[j]
        rwa [← h5l, fil_set _ (by rw [h5l]; omega), List.append_assoc, ← List.take_succ_eq_append_getElem hlt, h5l] at this)
      have hbig : 16 + (j : Int) < 128 := by omega
      clear h5l
      generalize own[j] = u at *
      go_wp2_with fail
      go_roundw
      case rel => exact ⟨j + 1, by omega, by go_num, HNx.out⟩
      case measure => simp [intOf]; omega
    · obtain rfl : j = own.length := by omega
      have HS := Lib.hid (show Bb w wr R g (fil (h6 e n p o own)) from by
        have := HX.out
        rwa [List.take_length] at this)
      clear HX
      have HE := Lib.hid (fil_end (e := e) (n := n) (p := p) (o := o) (own := own) hl)
      have hcr := crc_lt (head e n p o own)
      have hbs := HS.out.own.bytes (o := 0) (m := 124) (cap := 128) (by rw [fil_len (by rw [h6_len]; omega)]; omega) (by omega) (by decide)
      rw [List.drop_zero, fil_take hl] at hbs
      have HQ := Lib.hid (dsum_any _ (head e n p o own) wr.drew (hbs.below (Below.refl _ wr).drew))
      have HC := Lib.hid (show crc (head e n p o own) = crc (head e n p o own) from rfl)
      generalize crc (head e n p o own) = C at *
      clear hbs HC
      have h6l : (fil (h6 e n p o own)).length = 128 := fil_len (by rw [h6_len]; omega)
      go_upto_region 10 with fail
      have HF := Lib.hid (show ∀ x, Turns (fun k => k = R) wr x → Blk x g tSec (fil (h6 e n p o own)) from fun x hx => HS.out.own.turn hx (by have := HS.out.low; omega))
      have hld : ∀ x, Turns (fun k => k = R) wr x → (Instr.loadAt tSec (.pointer (some ⟨g, 0, none⟩))).run Try.prog x = .ok (.agg (sec (fil (h6 e n p o own)))) x := fun x hx => by
        have := run_loadAt_mid (P := Try.prog) x g 0 tSec (Lib.byteCells (fil (h6 e n p o own))) _ (HF.out x hx).range Try.underlying64 rfl (by rw [Lib.byteCells_length, h6l]; exact Ta.info_sec)
        exact this
      refine Order.region_begin (S := Turns (fun k => k = R) wr.drew) (by kernel_rfl) ?_
      refine Order.reads_any (idx := [0, 1]) (by kernel_rfl) (Turns.refl _ _) (fun _ _ _ _ _ h => Order.noPanic_put h) 4 _ _ (by decide +kernel) ?_
      simp only [Order.pick, List.getElem?_toArray, List.getElem?_cons_zero, List.getElem?_cons_succ]
      repeat (first
        | (refine Order.reads_off (by rfl) ?_
           simp only [Act.put, List.setIfInBounds_toArray, List.set_cons_zero, List.set_cons_succ])
        | (apply Order.reads_on
           · rfl
           · intro x hx
             first
               | (have hld' := hld x (Turns.after_below (Below.refl _ _).drew hx)
                  exact Order.load_at rfl rfl (by assumption))
               | (go_simp; rfl)
               | (have hld' := hld x (Turns.after_below (Below.refl _ _).drew hx)
                  go_simp; rfl)
           simp only [Act.put, List.setIfInBounds_toArray, List.set_cons_zero, List.set_cons_succ]))
      refine Order.reads_end ?_
      apply Order.acts_any (R := (Turns (fun k => k = R))) (fun h k => h.trans k fun _ _ h => h) (i := 2)
      · rfl
      · decide +kernel
      · rfl
      unfold Oper.wp
      go_simp
      refine HQ.out.mono ?_
      rintro r1 Z ⟨rfl, hbz⟩
      subst hbz
      refine ⟨Turns.refl _ _, ?_⟩
      have hw : IntKind.i64.wrap (C : Int) = (C : Int) := by rw [IntKind.wrap_i64] <;> omega
      refine Order.reads_any (idx := [3]) (by kernel_rfl) (Turns.refl _ _) (fun _ _ _ _ _ h => Order.noPanic_put h) 2 _ _ (by decide +kernel) ?_
      simp only [Order.pick, List.getElem?_toArray, List.getElem?_cons_zero, List.getElem?_cons_succ]
      repeat (first
        | (refine Order.reads_off (by rfl) ?_
           simp only [Act.put, List.setIfInBounds_toArray, List.set_cons_zero, List.set_cons_succ])
        | (apply Order.reads_on
           · rfl
           · intro x hx
             first
               | (go_simp; rfl)
               | (fail
                  go_simp; rfl)
           simp only [Act.put, List.setIfInBounds_toArray, List.set_cons_zero, List.set_cons_succ]))
      refine Order.reads_end ?_
      have HP := Lib.hid (dpb_any (fil (h6 e n p o own)) 124 4 C h6l (by omega) (by omega) (by omega) wr.drew)
      rw [HE.out] at HP
      apply Order.acts_any (R := (Turns (fun k => k = R))) (fun h k => h.trans k fun _ _ h => h) (i := 4)
      · rfl
      · decide +kernel
      · rfl
      unfold Oper.wp
      go_simp
      first | rw [hw] | skip
      refine HP.out.mono ?_
      rintro r1 Y9 ⟨rfl, ht⟩
      refine ⟨Turns.of_below ht, ?_⟩
      have hS9 := HS.out.on (((Below.refl wr.heap.size wr).drew).trans ht)
      have h8 := secB_len (e := e) (n := n) (p := p) (o := o) hl
      apply Order.acts_any (R := (Turns (fun k => k = R))) (fun h k => h.trans k fun _ _ h => h) (i := 5)
      · rfl
      · decide +kernel
      · rfl
      simp only [List.getElem_toArray, List.getElem_cons_succ, List.getElem_cons_zero]
      refine wp_store_row tSec _ _ rfl R (sec (secB e n p o own)) rfl rfl tSec (sec nul) hS9.res (by rw [Ta.sec_size h8]; exact Ta.info_sec) (by rw [Ta.sec_size h8]; rfl) (Ta.sec_one _) ?_
      refine ⟨turn_row _ _ _, ?_⟩
      refine wpAnyH_done (by decide +kernel) ?_ _
      refine NoPanic.normal ?_
      have hrow := hS9.res.row (secB e n p o own)
      have hbf := below_setRow hS9.below (g := R) hS9.low.1 (sec (secB e n p o own))
      have hi : (Try.prog.info? tSec).map (·.size) = some (sec (secB e n p o own)).size := by rw [Ta.sec_size h8]; exact Ta.info_sec
      have HEn := Lib.hid (And.intro hbf (And.intro hrow hi))
      clear hS9 hrow hbf hi
      go_wp2_with fail
      exact bodyPost_ret (v := .agg (sec (secB e n p o own))) (results_cell_row (p := 10) (ty := tSec) (by kernel_rfl) _ _ R tSec _ (0, 0) _ rfl HEn.out.2.1 Try.underlying64 rfl HEn.out.2.2) rfl ⟨rfl, HEn.out.1⟩
end Sp
end Go.Proofs.Ytdodmjcbjknneaa
