/-
  SpoolRoom, walked: as many records as there are sectors for are appended, and not one more; behind a cut again as many.
-/
import Derived.Test.YtkfmmdiflbnhgaaSgpE
namespace Go.Proofs.Ytkfmmdiflbnhgaa
set_option maxRecDepth 100000
open Go.RowKit
open Knot (Turns NewRow)
open Ta (IsBytes Stay sec nul ptr IsT Tray Made Grow)
namespace Sp
theorem zer_len (m : Nat) : (zer m).length = m := List.length_replicate
/-- Room for one more: it is appended. -/
theorem append_one {s : S} {t : Tray (List UInt8)} {m : Nat} (hm : m ≤ 60000) (h2 : s.tail + parts m ≤ s.count + s.head) (h3 : s.dead = false) (h : t.left = -1) :
    (append s (zer m) t).2 = ({ s with tail := s.tail + parts m }, 0) ∧ (append s (zer m) t).1.left = -1 ∧ (append s (zer m) t).1.cache = [] := by
  have hl := zer_len m
  obtain ⟨e1, e2⟩ := append_free (s := s) (b := zer m) (t := t) (by omega) (by rw [hl]; omega) h3 h
  have hw := wrote_cached s (zer m) (parts (zer m).length) t h
  rw [e1] at e2 ⊢
  refine ⟨by rw [hl], e2, hw⟩
theorem append_over {s : S} {t : Tray (List UInt8)} {m : Nat} (hm : m ≤ 60000) (h2 : s.count + s.head < s.tail + parts m) : append s (zer m) t = (t, s, 3) := by
  have hl := zer_len m
  exact append_full (by omega) (by rw [hl]; omega)
namespace LawS13Room
set_option maxHeartbeats 16000000 in
set_option maxRecDepth 100000 in
theorem walk (z1 z2 : Int) (w : World) (hz1 : (Lit.int .u8 z1).wf = true) (hz2 : (Lit.int .u8 z2).wf = true) :
    Calls Try.prog 7 #[.int .u8 z1, .int .u8 z2] w fun e x => e = .returned (.bool true) ∧ Below w.heap.size w x := by
  have h1 : 0 ≤ z1 ∧ z1 ≤ 255 := by simp [Lit.wf, IntKind.min, IntKind.max, IntKind.signed, IntKind.bits] at hz1; exact hz1
  have h2 : 0 ≤ z2 ∧ z2 ≤ 255 := by simp [Lit.wf, IntKind.min, IntKind.max, IntKind.signed, IntKind.bits] at hz2; exact hz2
  clear hz1 hz2
  obtain ⟨m, rfl⟩ : ∃ m : Nat, z2 = (m : Int) := ⟨z2.toNat, by omega⟩
  obtain ⟨c, rfl⟩ : ∃ c : Nat, z1 = (c : Int) := ⟨z1.toNat, by omega⟩
  have hm : m ≤ 255 := by omega
  have hp40 : (40 : Int) = ((40 : Nat) : Int) := rfl
  have HN := Lib.hid (Ta.new_any 40 (by omega) w)
  clear hp40
  go_enter Try.func7, Try.ntmps7
  go_wp2_with fail
  refine HN.out.mono ?_
  rintro e x1 ⟨p, rfl, hb, hi⟩
  have H1 := Lib.hid (And.intro hb hi)
  clear hb hi HN
  have hck : c % 30 < 30 := Nat.mod_lt _ (by omega)
  go_upto_region 3 with fail
  have hK : 2 + (c : Int) % 30 = ((2 + c % 30 : Nat) : Int) := by omega
  rw [hK]
  clear hK
  have hk2 : 2 ≤ 2 + c % 30 ∧ 2 + c % 30 ≤ 31 := by omega
  generalize 2 + c % 30 = K at *
  clear hck h1 h2
  have h00 : ((0 : Int) != 0) = false := rfl
  go_wp2_with fail
  refine (awake_any x1).mono ?_
  rintro e x2 ⟨rfl, hb⟩
  have HO := Lib.hid (sys_open (s := ⟨0, K, 0, 0, 1, false⟩) (H1.out.1.trans (hb.mono H1.out.1.size)) (H1.out.2.below hb) (fun k hk => hk.1) rfl rfl (by refine ⟨⟨?_, ?_, ?_, ?_⟩, ?_, ?_, ?_, ?_⟩ <;> simp <;> omega))
  rw [found_fresh] at HO
  clear hb H1
  simp only at HO
  go_wp2_with fail
  refine HO.out.mono ?_
  rintro e x3 ⟨q, v, rfl, -, -, hsys, hr⟩
  obtain ⟨ra, rc, rfl⟩ := hr.slice
  have HS := Lib.hid hsys
  clear hr hsys HO
  have hE : parts m = max 1 ((m + 107) / 108) := rfl
  have hE2 : 1 ≤ parts m ∧ parts m ≤ 3 := by omega
  have hEi : (if (1 : Int) < ((m : Int) + 107) / 108 then ((m : Int) + 107) / 108 else 1) = ((parts m : Nat) : Int) := by split <;> omega
  have hEj : ((m : Int) + 107) / 108 ≤ 1 ∨ 1 < ((m : Int) + 107) / 108 := by omega
  have HEi := Lib.hid (And.intro hE hEi)
  clear hE hEi hEj
  go_upto_region 9 with fail
  rw [HEi.out.2]
  obtain ⟨E, hEq⟩ : ∃ E, E = parts m := ⟨_, rfl⟩
  rw [← hEq] at hE2 ⊢
  have HEq := Lib.hid hEq
  clear hEq HEi
  have hE0 : ¬ (E : Int) = 0 := by omega
  have hqd : (K : Int) / (E : Int) = ((K / E : Nat) : Int) := by simp
  have hrm : (K : Int) % (E : Int) = ((K % E : Nat) : Int) := by simp
  have HQ := Lib.hid (And.intro hqd hrm)
  clear hqd hrm
  have hmk := fun W => make_zer m (by omega) W
  go_wp2_with fail
  go_loopw [52] (fun i x => ∃ (a : Nat) (t : Tray (List UInt8)) (s : S) (F : Nat → Prop), a ≤ 2 ∧ i = .int .i64 (a : Int) ∧ Hid (Sys w x p q 40 t s F ∧ s.count = K ∧ s.head = s.tail ∧ s.tail ≤ a * 31 ∧ s.dead = false ∧ t.left = -1 ∧ t.cache = [])) (fun i _ => 2 - (intOf i).toNat)
  case atStart => exact ⟨0, Tray.fresh, _, _, by omega, rfl, HS.out, rfl, rfl, Nat.le_refl _, rfl, rfl, rfl⟩
  case round =>
    obtain ⟨a, t, s, F, ha, rfl, HX⟩ := hrel
    clear HS
    by_cases hlt : a < 2
    · go_upto_region 12 with fail
      rw [HQ.out.1, decide_eq_true (show (a : Int) < 2 by omega)]
      obtain ⟨D, hD⟩ : ∃ D, D = K / E := ⟨_, rfl⟩
      rw [← hD]
      have hDE : D * E ≤ K := by rw [hD]; exact Nat.div_mul_le_self K E
      have hDR : D * E + K % E = K := by rw [hD, Nat.mul_comm]; exact Nat.div_add_mod K E
      have hRE : K % E < E := Nat.mod_lt _ (by omega)
      have hD31 : D ≤ 31 := by rw [hD]; exact Nat.le_trans (Nat.div_le_self _ _) hk2.2
      have HD := Lib.hid (And.intro hDE (And.intro hDR (And.intro hRE hD)))
      have hw64 : wrap64 (D : Int) = (D : Int) := by unfold wrap64; omega
      rw [hw64]
      clear hDE hDR hRE hD hw64
      go_loopw [57] (fun j x => ∃ (b : Nat) (t' : Tray (List UInt8)) (s' : S) (F' : Nat → Prop), b ≤ D ∧ j = .int .i64 (b : Int) ∧ Hid (Sys w x p q 40 t' s' F' ∧ s'.count = K ∧ s'.head = s.tail ∧ s'.tail = s.tail + b * E ∧ s'.dead = false ∧ t'.left = -1 ∧ t'.cache = [])) (fun j _ => D - (intOf j).toNat)
      case atStart => exact ⟨0, t, s, F, by omega, rfl, HX.out.1, HX.out.2.1, HX.out.2.2.1, by omega, HX.out.2.2.2.2⟩
      case round =>
        obtain ⟨b, t', s', F', hb, rfl, HY⟩ := hrel
        by_cases hlb : b < D
        · have hbE : (b + 1) * E ≤ D * E := Nat.mul_le_mul_right E hlb
          have hbE2 : (b + 1) * E = b * E + E := by rw [Nat.add_mul, Nat.one_mul]
          have hgo := append_one (s := s') (t := t') (m := m) (by omega) (by have h1 := HY.out; have h2 := HD.out.1; rw [← HEq.out, h1.2.1, h1.2.2.1, h1.2.2.2.1]; omega) HY.out.2.2.2.2.1 HY.out.2.2.2.2.2.1
          have hal : Below wr.heap.size wr (wr.alloc (.cells (Lib.byteCells (zer m)).toArray 5)) := (Below.refl _ _).alloc (Nat.le_refl _) _
          have hap := (HY.out.1.on hal).append (.slice (some ⟨wr.heap.size, 0, none⟩) m m) (zer m) (by
            have := new_bytes wr (zer m) (0, 0) (by rw [zer_len]; omega) (F := F') fun k hk => HY.out.1.tray.low k hk
            rwa [zer_len] at this) (by rw [zer_len]; omega) (by rw [HY.out.2.2.2.2.2.2]; exact Nat.zero_le _) (by have h1 := HY.out; have h2 := HX.out.2.2.2.1; have h3 := HD.out.1; rw [h1.2.2.2.1]; omega)
          rw [hgo.1] at hap
          have HA := Lib.hid (And.intro hap hgo.2)
          have HbE := Lib.hid hbE2
          have hne : ((0 : Int) != 0) = false := rfl
          clear hgo hap hal hbE hbE2
          go_wp2_with fail
          refine HA.out.1.mono ?_
          rintro e y ⟨rfl, F2, hs2, -, -⟩
          have HZ := Lib.hid hs2
          clear hs2
          go_wp2_with fail
          go_roundw
          case rel =>
            refine ⟨b + 1, (append s' (zer m) t').1, { s' with tail := s'.tail + parts m }, F2, by omega, by go_num, HZ.out, HY.out.2.1, HY.out.2.2.1, ?_, HY.out.2.2.2.2.1, HA.out.2.1, HA.out.2.2⟩
            show s'.tail + parts m = s.tail + (b + 1) * E
            rw [HY.out.2.2.2.1, ← HEq.out, HbE.out, Nat.add_assoc]
          case measure => simp [intOf]; omega
        · have hbD : ¬ (b : Int) < (D : Int) := by omega
          have hbe : b = D := by omega
          rw [hbe] at HY
          clear hlb hbe
          go_wp2_with fail
          have hov := append_over (s := s') (t := t') (m := m) (by omega) (by have h1 := HY.out; have h2 := HD.out; rw [← HEq.out, h1.2.1, h1.2.2.1, h1.2.2.2.1]; omega)
          have hdr : Below wr.heap.size wr wr.drew := (Below.refl _ _).drew
          have hys : Sys w wr.drew p q 40 t' s' F' := HY.out.1.on hdr
          have HYd := Lib.hid hys
          have hmk2 := hmk wr.drew
          have hal : Below wr.drew.heap.size wr.drew (wr.drew.alloc (.cells (Lib.byteCells (zer m)).toArray 5)) := (Below.refl _ _).alloc (Nat.le_refl _) _
          have hap := (hys.on hal).append (.slice (some ⟨wr.drew.heap.size, 0, none⟩) m m) (zer m) (by
            have := new_bytes wr.drew (zer m) (0, 0) (by rw [zer_len]; omega) (F := F') fun k hk => hys.tray.low k hk
            rwa [zer_len] at this) (by rw [zer_len]; omega) (by rw [HY.out.2.2.2.2.2.2]; exact Nat.zero_le _) (by have h1 := HY.out; have h2 := HX.out.2.2.2.1; have h3 := HD.out.1; rw [h1.2.2.2.1]; omega)
          rw [hov] at hap
          have HA := Lib.hid hap
          have hne : ((3 : Int) != 3) = false := rfl
          clear hap hal hys hov hdr
          refine Order.region_begin (S := Later wr.drew) (by kernel_rfl) ?_
          refine Order.reads_any (idx := [0, 1]) (by kernel_rfl) (Later.refl _) (fun _ _ _ _ _ h => Order.noPanic_put h) 11 _ _ (by decide +kernel) ?_
          simp only [Order.pick, List.getElem?_toArray, List.getElem?_cons_zero, List.getElem?_cons_succ]
          repeat (first
            | (refine Order.reads_off (by rfl) ?_
               simp only [Act.put, List.setIfInBounds_toArray, List.set_cons_zero, List.set_cons_succ])
            | (apply Order.reads_on
               · rfl
               · intro x hx
                 first
                   | (go_simp; rfl)
                   | (fail
                      go_simp; rfl)
               simp only [Act.put, List.setIfInBounds_toArray, List.set_cons_zero, List.set_cons_succ]))
          refine Order.reads_end ?_
          apply Order.acts_any (R := Later) (fun h k => h.trans k) (i := 2)
          · rfl
          · decide +kernel
          · rfl
          unfold Oper.wp
          go_simp
          refine ⟨show wr.heap.size ≤ _ by simp, ?_⟩
          change wpAnyH _ _ _ _ (Later (wr.drew.alloc (.cells (Lib.byteCells (zer m)).toArray 5))) _ _ _ (wr.drew.alloc (.cells (Lib.byteCells (zer m)).toArray 5))
          generalize wr.drew.alloc (.cells (Lib.byteCells (zer m)).toArray 5) = X2 at *
          apply Order.acts_any (R := Later) (fun h k => h.trans k) (i := 3)
          · rfl
          · decide +kernel
          · rfl
          unfold Oper.wp
          go_simp
          refine HA.out.mono ?_
          rintro e y ⟨rfl, F2, hs2, -, hty⟩
          refine ⟨hty.size, ?_⟩
          have hro := hs2.room_
          have HRo := Lib.hid hro
          clear hro hs2 hty
          refine Order.reads_any (idx := [4, 5, 6]) (by kernel_rfl) (Later.refl _) (fun _ _ _ _ _ h => Order.noPanic_put h) 6 _ _ (by decide +kernel) ?_
          simp only [Order.pick, List.getElem?_toArray, List.getElem?_cons_zero, List.getElem?_cons_succ]
          repeat (first
            | (refine Order.reads_off (by rfl) ?_
               simp only [Act.put, List.setIfInBounds_toArray, List.set_cons_zero, List.set_cons_succ])
            | (apply Order.reads_on
               · rfl
               · intro x hx
                 first
                   | (go_simp; rfl)
                   | (fail
                      go_simp; rfl)
               simp only [Act.put, List.setIfInBounds_toArray, List.set_cons_zero, List.set_cons_succ]))
          refine Order.reads_end ?_
          refine Order.reads_any (idx := [8, 9]) (by kernel_rfl) (Later.refl _) (fun _ _ _ _ _ h => Order.noPanic_put h) 4 _ _ (by decide +kernel) ?_
          simp only [Order.pick, List.getElem?_toArray, List.getElem?_cons_zero, List.getElem?_cons_succ]
          repeat (first
            | (refine Order.reads_off (by rfl) ?_
               simp only [Act.put, List.setIfInBounds_toArray, List.set_cons_zero, List.set_cons_succ])
            | (apply Order.reads_on
               · rfl
               · intro x hx
                 first
                   | (go_simp; rfl)
                   | (fail
                      go_simp; rfl)
               simp only [Act.put, List.setIfInBounds_toArray, List.set_cons_zero, List.set_cons_succ]))
          refine Order.reads_end ?_
          refine Order.reads_any (idx := [10]) (by kernel_rfl) (Later.refl _) (fun _ _ _ _ _ h => Order.noPanic_put h) 3 _ _ (by decide +kernel) ?_
          simp only [Order.pick, List.getElem?_toArray, List.getElem?_cons_zero, List.getElem?_cons_succ]
          refine Order.reads_on (v := .int .i64 ((K % E : Nat) : Int)) (by rfl) (fun x _ => rem_at rfl rfl rfl (by omega) (by rw [Int.tmod_eq_emod_of_nonneg (by omega), HQ.out.2])) ?_
          simp only [Act.put, List.setIfInBounds_toArray, List.set_cons_zero, List.set_cons_succ]
          refine Order.reads_end ?_
          apply Order.acts_any (R := Later) (fun h k => h.trans k) (i := 7)
          · rfl
          · decide +kernel
          · rfl
          unfold Oper.wp
          go_simp
          refine HRo.out.mono ?_
          rintro e y2 ⟨rfl, hb2, hs2⟩
          refine ⟨hb2.size, ?_⟩
          have hro : ((s'.count : Int) - ((s'.tail : Int) - (s'.head : Int))) = ((K % E : Nat) : Int) := by
            have h1 := HY.out
            have h2 := HD.out
            rw [h1.2.1, h1.2.2.1, h1.2.2.2.1]
            omega
          have hnr : (((s'.count : Int) - ((s'.tail : Int) - (s'.head : Int))) != ((K % E : Nat) : Int)) = false := by rw [hro]; exact bne_self_eq_false _
          have HS2 := Lib.hid hs2
          clear hb2 hs2 hro
          refine Order.reads_any (idx := [11, 12]) (by kernel_rfl) (Later.refl _) (fun _ _ _ _ _ h => Order.noPanic_put h) 0 _ _ (by decide +kernel) ?_
          simp only [Order.pick, List.getElem?_toArray, List.getElem?_cons_zero, List.getElem?_cons_succ]
          repeat (first
            | (refine Order.reads_off (by rfl) ?_
               simp only [Act.put, List.setIfInBounds_toArray, List.set_cons_zero, List.set_cons_succ])
            | (apply Order.reads_on
               · rfl
               · intro x hx
                 first
                   | (go_simp; rfl)
                   | (fail
                      go_simp; rfl)
               simp only [Act.put, List.setIfInBounds_toArray, List.set_cons_zero, List.set_cons_succ]))
          refine Order.reads_end ?_
          refine wpAnyH_done (by decide +kernel) ?_ _
          refine NoPanic.normal ?_
          have HCt := Lib.hid HS2.out.cut
          go_wp2_with fail
          refine HCt.out.mono ?_
          rintro e y3 ⟨rfl, hs3, -⟩
          have HS3 := Lib.hid hs3
          clear hs3 HCt
          go_wp2_with fail
          go_roundw
          case rel =>
            refine ⟨a + 1, t', { s' with head := s'.tail }, F2, by omega, by go_num, HS3.out, HY.out.2.1, rfl, ?_, HY.out.2.2.2.2⟩
            show s'.tail ≤ (a + 1) * 31
            have h1 := HY.out
            have h2 := HD.out.1
            have h3 := HX.out.2.2.2.1
            rw [h1.2.2.2.1]
            omega
          case measure => simp [intOf]; omega
    · obtain rfl : a = 2 := by omega
      have HRo := Lib.hid HX.out.1.room_
      have hro : ((s.count : Int) - ((s.tail : Int) - (s.head : Int))) = (K : Int) := by have h1 := HX.out; rw [h1.2.1, h1.2.2.1]; omega
      rw [hro] at HRo
      go_wp2_with fail
      refine HRo.out.mono ?_
      rintro e y ⟨rfl, hb, hs⟩
      have hmk2 := make_zer 60001 (by omega) y
      rw [show ((60001 : Nat) : Int) = 60001 from rfl] at hmk2
      have hal : Below y.heap.size y (y.alloc (.cells (Lib.byteCells (zer 60001)).toArray 5)) := (Below.refl _ _).alloc (Nat.le_refl _) _
      have hap := (hs.on hal).append (.slice (some ⟨y.heap.size, 0, none⟩) 60001 60001) (zer 60001) (by
        have := new_bytes y (zer 60001) (0, 0) (by rw [zer_len]; omega) (F := F) fun k hk => hs.tray.low k hk
        rwa [zer_len] at this) (by rw [zer_len]; omega) (by rw [HX.out.2.2.2.2.2.2]; exact Nat.zero_le _) (by have h1 := HX.out.2.2.2.1; omega)
      rw [append_long (by rw [zer_len]; omega)] at hap
      have HA := Lib.hid hap
      clear hb hs hal hap HRo hro
      generalize hz6 : (Lib.byteCells (zer 60001)).toArray = Z6 at *
      clear hz6
      go_wp2_with fail
      refine HA.out.mono ?_
      rintro e y2 ⟨rfl, F2, hs2, -, -⟩
      have HE := Lib.hid hs2.below
      clear hs2 HA
      go_wp2_with fail
      go_ret
      exact ⟨rfl, HE.out⟩
end LawS13Room
end Sp
end Go.Proofs.Ytkfmmdiflbnhgaa
