/-
  The document's answers for layer 1 (stileref01) in this program: Rune.
-/
import Derived.Test.YtdlfbikpniionaaGreatDoorMgMem
import Derived.Test.YtdlfbikpniionaaGreatDoorMgPure
namespace Go.Proofs.YtdlfbikpniionaaGreatDoor
open Go.RowKit
namespace Ref

def rv (l : List UInt8) : Value := .tuple #[.int .i64 (Gly.rr l).1, .int .i64 (Gly.rr l).2]
theorem rv_zero {l : List UInt8} (h : Gly.rr l = (0, 0)) : rv l = .tuple #[.int .i64 0, .int .i64 0] := by rw [rv, h]; rfl
theorem rv_out {l : List UInt8} {r : Int} {n : Nat} (h : Gly.rr l = (r.toNat, n)) (hr : 0 ≤ r) : rv l = .tuple #[.int .i64 r, .int .i64 n] := by
  rw [rv, h]
  show Value.tuple #[.int .i64 ((r.toNat : Nat) : Int), .int .i64 (n : Int)] = _
  rw [Int.toNat_of_nonneg hr]

set_option maxHeartbeats 1000000 in
set_option maxRecDepth 100000 in
theorem rune_one (s : ByteArray) (p : Nat) (hp : p < s.size) (_hs : s.size ≤ 4000000) (w : World) (h : (s[p]).toNat < 128) :
    Calls Tryz.prog 23 #[.string s, .int .i64 p] w fun e w' => e = .returned (rv (s.data.toList.drop p)) ∧ w = w' := by
  have hr := Gly.rr_one (l := s.data.toList.drop p) (by rw [byte_at0 hp]; exact h)
  have hv : rv (s.data.toList.drop p) = .tuple #[.int .i64 ((s[p]).toNat : Int), .int .i64 1] := by rw [rv, hr, byte_at0 hp]; rfl
  have HV := Lib.hid hv
  clear hv hr
  go_enter Tryz.func23, Tryz.ntmps23
  go_wp2
  go_ret2
  exact ⟨by rw [HV.out]; rfl, rfl⟩

set_option maxHeartbeats 1000000 in
set_option maxRecDepth 100000 in
theorem rune_none (s : ByteArray) (p : Nat) (hp : p < s.size) (_hs : s.size ≤ 4000000) (w : World) (h : (128 ≤ (s[p]).toNat ∧ (s[p]).toNat < 192) ∨ 248 ≤ (s[p]).toNat) :
    Calls Tryz.prog 23 #[.string s, .int .i64 p] w fun e w' => e = .returned (rv (s.data.toList.drop p)) ∧ w = w' := by
  have hr := rv_zero (Gly.rr_none (l := s.data.toList.drop p) (by rw [byte_at0 hp]; exact h))
  have HV := Lib.hid hr
  clear hr
  have hb := (s[p]).toNat_lt
  rcases h with ⟨h1, h2⟩ | h1
  · go_enter Tryz.func23, Tryz.ntmps23
    go_wp2
    go_ret2
    exact ⟨by rw [HV.out]; rfl, rfl⟩
  · go_enter Tryz.func23, Tryz.ntmps23
    go_wp2
    go_ret2
    exact ⟨by rw [HV.out]; rfl, rfl⟩

set_option maxHeartbeats 2000000 in
set_option maxRecDepth 100000 in
theorem rune_short2 (s : ByteArray) (p : Nat) (hp : p < s.size) (hs : s.size ≤ 4000000) (w : World) (h1 : 192 ≤ (s[p]).toNat) (h2 : (s[p]).toNat < 224) (hl : s.size - p < 2) :
    Calls Tryz.prog 23 #[.string s, .int .i64 p] w fun e w' => e = .returned (rv (s.data.toList.drop p)) ∧ w = w' := by
  have hr := rv_zero (Gly.rr_short (l := s.data.toList.drop p) (n := 2) (by rw [byte_at0 hp]; omega) (by rw [len_drop]; exact hl))
  have HV := Lib.hid hr
  clear hr
  go_enter Tryz.func23, Tryz.ntmps23
  go_wp2
  go_ret2
  exact ⟨by rw [HV.out]; rfl, rfl⟩

set_option maxHeartbeats 4000000 in
set_option maxRecDepth 100000 in
theorem rune_long2 (s : ByteArray) (p : Nat) (hp : p < s.size) (hs : s.size ≤ 4000000) (w : World) (h1 : 192 ≤ (s[p]).toNat) (h2 : (s[p]).toNat < 224) (hl : 2 ≤ s.size - p) :
    Calls Tryz.prog 23 #[.string s, .int .i64 p] w fun e w' => e = .returned (rv (s.data.toList.drop p)) ∧ w = w' := by
  have hb0 : 192 ≤ Gly.byte (s.data.toList.drop p) 0 ∧ Gly.byte (s.data.toList.drop p) 0 < 224 := by rw [byte_at0 hp]; omega
  have hstart : (((s[p]).toNat : Int) - 192) = Gly.pr (s.data.toList.drop p) 192 1 := by rw [Gly.pr_one, byte_at0 hp]; rfl
  have HB := Lib.hid hb0
  have HS := Lib.hid hstart
  clear hb0 hstart
  have d1 : decide (((s[p]).toNat : Int) < 128) = false := by simp; omega
  have e0 : decide (192 ≤ ((s[p]).toNat : Int)) = true := by simp; omega
  have f0 : decide (((s[p]).toNat : Int) < 224) = true := by simp; omega
  have dl : decide (((s.size : Int) - (p : Int)) < 2) = false := by simp; omega
  go_enter Tryz.func23, Tryz.ntmps23
  go_wp2
  go_loop [8, 10] (fun r i => ∃ k : Nat, 1 ≤ k ∧ k ≤ 2 ∧ i = .int .i64 k ∧ Hid (r = .int .i64 (Gly.pr (s.data.toList.drop p) 192 k)) ∧ Hid (∀ j, 1 ≤ j → j < k → Gly.cont (s.data.toList.drop p) j)) (fun _ i => 2 - (intOf i).toNat)
  case atStart => exact ⟨1, by omega, by omega, rfl, Lib.hid (by rw [← HS.out]), Lib.hid (fun j _ _ => by omega)⟩
  case round =>
    obtain ⟨k, hk1, hk2, rfl, HR, HJ⟩ := hrel
    have hr := HR.out
    subst hr
    have hbd := Gly.pr_bounds (s.data.toList.drop p) 192 HB.out.1 (by have := HB.out.2; omega) k hk1 (by omega) HJ.out
    obtain ⟨hbd1, hbd2⟩ := hbd
    by_cases hlt : k < 2
    · have hpk : p + k < s.size := by omega
      have hby := byte_at hpk
      have hbk := (s[p + k]).toNat_lt
      have hps := Gly.pr_succ (s.data.toList.drop p) 192 k hk1
      rw [hby] at hps
      have HY := Lib.hid hby
      have HP := Lib.hid hps
      clear hby hps
      by_cases hc : (s[p + k]).toNat < 128 ∨ 191 < (s[p + k]).toNat
      · have hz := rv_zero (Gly.rr_cut (l := s.data.toList.drop p) (n := 2) (by have := HB.out; omega) hk1 hlt (by rw [HY.out]; exact hc))
        have HZ := Lib.hid hz
        clear hz
        rcases hc with hc | hc
        · go_wp2
          go_ret2
          exact ⟨by rw [HZ.out]; rfl, rfl⟩
        · go_wp2
          go_ret2
          exact ⟨by rw [HZ.out]; rfl, rfl⟩
      · have hc1 : 128 ≤ (s[p + k]).toNat := by omega
        have hc2 : (s[p + k]).toNat ≤ 191 := by omega
        clear hc
        go_wp2
        go_round
        case rel => exact ⟨k + 1, by omega, by omega, by go_num, Lib.hid (by rw [HP.out]), Lib.hid (fun j hj1 hj2 => by
          by_cases e : j = k
          · subst e; unfold Gly.cont; rw [HY.out]; exact ⟨hc1, hc2⟩
          · exact HJ.out j hj1 (by omega))⟩
        case measure => simp [intOf]; omega
    · have hkn : k = 2 := by omega
      subst hkn
      have hf : Gly.rr (s.data.toList.drop p) = Gly.out (Gly.pr (s.data.toList.drop p) 192 2) 2 128 := Gly.rr_two HB.out (by rw [len_drop]; exact hl) (HJ.out 1 (by omega) (by omega))
      generalize Gly.pr (s.data.toList.drop p) 192 2 = R at *
      have HF := Lib.hid hf
      clear hf
      go_wp2
      all_goals
        go_ret2
        first
          | exact ⟨by rw [rv_zero (HF.out.trans (Gly.out_bad (by omega)))]; rfl, rfl⟩
          | exact ⟨by rw [rv_out (HF.out.trans (Gly.out_good (by omega))) (by omega)]; rfl, rfl⟩

set_option maxHeartbeats 2000000 in
set_option maxRecDepth 100000 in
theorem rune_short3 (s : ByteArray) (p : Nat) (hp : p < s.size) (hs : s.size ≤ 4000000) (w : World) (h1 : 224 ≤ (s[p]).toNat) (h2 : (s[p]).toNat < 240) (hl : s.size - p < 3) :
    Calls Tryz.prog 23 #[.string s, .int .i64 p] w fun e w' => e = .returned (rv (s.data.toList.drop p)) ∧ w = w' := by
  have hr := rv_zero (Gly.rr_short (l := s.data.toList.drop p) (n := 3) (by rw [byte_at0 hp]; omega) (by rw [len_drop]; exact hl))
  have HV := Lib.hid hr
  clear hr
  go_enter Tryz.func23, Tryz.ntmps23
  go_wp2
  go_ret2
  exact ⟨by rw [HV.out]; rfl, rfl⟩

set_option maxHeartbeats 4000000 in
set_option maxRecDepth 100000 in
theorem rune_long3 (s : ByteArray) (p : Nat) (hp : p < s.size) (hs : s.size ≤ 4000000) (w : World) (h1 : 224 ≤ (s[p]).toNat) (h2 : (s[p]).toNat < 240) (hl : 3 ≤ s.size - p) :
    Calls Tryz.prog 23 #[.string s, .int .i64 p] w fun e w' => e = .returned (rv (s.data.toList.drop p)) ∧ w = w' := by
  have hb0 : 224 ≤ Gly.byte (s.data.toList.drop p) 0 ∧ Gly.byte (s.data.toList.drop p) 0 < 240 := by rw [byte_at0 hp]; omega
  have hstart : (((s[p]).toNat : Int) - 224) = Gly.pr (s.data.toList.drop p) 224 1 := by rw [Gly.pr_one, byte_at0 hp]; rfl
  have HB := Lib.hid hb0
  have HS := Lib.hid hstart
  clear hb0 hstart
  have d1 : decide (((s[p]).toNat : Int) < 128) = false := by simp; omega
  have e0 : decide (192 ≤ ((s[p]).toNat : Int)) = true := by simp; omega
  have f0 : decide (((s[p]).toNat : Int) < 224) = false := by simp; omega
  have e1 : decide (224 ≤ ((s[p]).toNat : Int)) = true := by simp; omega
  have f1 : decide (((s[p]).toNat : Int) < 240) = true := by simp; omega
  have dl : decide (((s.size : Int) - (p : Int)) < 3) = false := by simp; omega
  go_enter Tryz.func23, Tryz.ntmps23
  go_wp2
  go_loop [8, 10] (fun r i => ∃ k : Nat, 1 ≤ k ∧ k ≤ 3 ∧ i = .int .i64 k ∧ Hid (r = .int .i64 (Gly.pr (s.data.toList.drop p) 224 k)) ∧ Hid (∀ j, 1 ≤ j → j < k → Gly.cont (s.data.toList.drop p) j)) (fun _ i => 3 - (intOf i).toNat)
  case atStart => exact ⟨1, by omega, by omega, rfl, Lib.hid (by rw [← HS.out]), Lib.hid (fun j _ _ => by omega)⟩
  case round =>
    obtain ⟨k, hk1, hk2, rfl, HR, HJ⟩ := hrel
    have hr := HR.out
    subst hr
    have hbd := Gly.pr_bounds (s.data.toList.drop p) 224 HB.out.1 (by have := HB.out.2; omega) k hk1 (by omega) HJ.out
    obtain ⟨hbd1, hbd2⟩ := hbd
    by_cases hlt : k < 3
    · have hpk : p + k < s.size := by omega
      have hby := byte_at hpk
      have hbk := (s[p + k]).toNat_lt
      have hps := Gly.pr_succ (s.data.toList.drop p) 224 k hk1
      rw [hby] at hps
      have HY := Lib.hid hby
      have HP := Lib.hid hps
      clear hby hps
      by_cases hc : (s[p + k]).toNat < 128 ∨ 191 < (s[p + k]).toNat
      · have hz := rv_zero (Gly.rr_cut (l := s.data.toList.drop p) (n := 3) (by have := HB.out; omega) hk1 hlt (by rw [HY.out]; exact hc))
        have HZ := Lib.hid hz
        clear hz
        rcases hc with hc | hc
        · go_wp2
          go_ret2
          exact ⟨by rw [HZ.out]; rfl, rfl⟩
        · go_wp2
          go_ret2
          exact ⟨by rw [HZ.out]; rfl, rfl⟩
      · have hc1 : 128 ≤ (s[p + k]).toNat := by omega
        have hc2 : (s[p + k]).toNat ≤ 191 := by omega
        clear hc
        go_wp2
        go_round
        case rel => exact ⟨k + 1, by omega, by omega, by go_num, Lib.hid (by rw [HP.out]), Lib.hid (fun j hj1 hj2 => by
          by_cases e : j = k
          · subst e; unfold Gly.cont; rw [HY.out]; exact ⟨hc1, hc2⟩
          · exact HJ.out j hj1 (by omega))⟩
        case measure => simp [intOf]; omega
    · have hkn : k = 3 := by omega
      subst hkn
      have hf : Gly.rr (s.data.toList.drop p) = Gly.out (Gly.pr (s.data.toList.drop p) 224 3) 3 2048 := Gly.rr_three HB.out (by rw [len_drop]; exact hl) (HJ.out 1 (by omega) (by omega)) (HJ.out 2 (by omega) (by omega))
      generalize Gly.pr (s.data.toList.drop p) 224 3 = R at *
      have HF := Lib.hid hf
      clear hf
      go_wp2
      all_goals
        go_ret2
        first
          | exact ⟨by rw [rv_zero (HF.out.trans (Gly.out_bad (by omega)))]; rfl, rfl⟩
          | exact ⟨by rw [rv_out (HF.out.trans (Gly.out_good (by omega))) (by omega)]; rfl, rfl⟩

set_option maxHeartbeats 2000000 in
set_option maxRecDepth 100000 in
theorem rune_short4 (s : ByteArray) (p : Nat) (hp : p < s.size) (hs : s.size ≤ 4000000) (w : World) (h1 : 240 ≤ (s[p]).toNat) (h2 : (s[p]).toNat < 248) (hl : s.size - p < 4) :
    Calls Tryz.prog 23 #[.string s, .int .i64 p] w fun e w' => e = .returned (rv (s.data.toList.drop p)) ∧ w = w' := by
  have hr := rv_zero (Gly.rr_short (l := s.data.toList.drop p) (n := 4) (by rw [byte_at0 hp]; omega) (by rw [len_drop]; exact hl))
  have HV := Lib.hid hr
  clear hr
  go_enter Tryz.func23, Tryz.ntmps23
  go_wp2
  go_ret2
  exact ⟨by rw [HV.out]; rfl, rfl⟩

set_option maxHeartbeats 4000000 in
set_option maxRecDepth 100000 in
theorem rune_long4 (s : ByteArray) (p : Nat) (hp : p < s.size) (hs : s.size ≤ 4000000) (w : World) (h1 : 240 ≤ (s[p]).toNat) (h2 : (s[p]).toNat < 248) (hl : 4 ≤ s.size - p) :
    Calls Tryz.prog 23 #[.string s, .int .i64 p] w fun e w' => e = .returned (rv (s.data.toList.drop p)) ∧ w = w' := by
  have hb0 : 240 ≤ Gly.byte (s.data.toList.drop p) 0 ∧ Gly.byte (s.data.toList.drop p) 0 < 248 := by rw [byte_at0 hp]; omega
  have hstart : (((s[p]).toNat : Int) - 240) = Gly.pr (s.data.toList.drop p) 240 1 := by rw [Gly.pr_one, byte_at0 hp]; rfl
  have HB := Lib.hid hb0
  have HS := Lib.hid hstart
  clear hb0 hstart
  have d1 : decide (((s[p]).toNat : Int) < 128) = false := by simp; omega
  have e0 : decide (192 ≤ ((s[p]).toNat : Int)) = true := by simp; omega
  have f0 : decide (((s[p]).toNat : Int) < 224) = false := by simp; omega
  have e1 : decide (224 ≤ ((s[p]).toNat : Int)) = true := by simp; omega
  have f1 : decide (((s[p]).toNat : Int) < 240) = false := by simp; omega
  have e2 : decide (240 ≤ ((s[p]).toNat : Int)) = true := by simp; omega
  have f2 : decide (((s[p]).toNat : Int) < 248) = true := by simp; omega
  have dl : decide (((s.size : Int) - (p : Int)) < 4) = false := by simp; omega
  go_enter Tryz.func23, Tryz.ntmps23
  go_wp2
  go_loop [8, 10] (fun r i => ∃ k : Nat, 1 ≤ k ∧ k ≤ 4 ∧ i = .int .i64 k ∧ Hid (r = .int .i64 (Gly.pr (s.data.toList.drop p) 240 k)) ∧ Hid (∀ j, 1 ≤ j → j < k → Gly.cont (s.data.toList.drop p) j)) (fun _ i => 4 - (intOf i).toNat)
  case atStart => exact ⟨1, by omega, by omega, rfl, Lib.hid (by rw [← HS.out]), Lib.hid (fun j _ _ => by omega)⟩
  case round =>
    obtain ⟨k, hk1, hk2, rfl, HR, HJ⟩ := hrel
    have hr := HR.out
    subst hr
    have hbd := Gly.pr_bounds (s.data.toList.drop p) 240 HB.out.1 (by have := HB.out.2; omega) k hk1 (by omega) HJ.out
    obtain ⟨hbd1, hbd2⟩ := hbd
    by_cases hlt : k < 4
    · have hpk : p + k < s.size := by omega
      have hby := byte_at hpk
      have hbk := (s[p + k]).toNat_lt
      have hps := Gly.pr_succ (s.data.toList.drop p) 240 k hk1
      rw [hby] at hps
      have HY := Lib.hid hby
      have HP := Lib.hid hps
      clear hby hps
      by_cases hc : (s[p + k]).toNat < 128 ∨ 191 < (s[p + k]).toNat
      · have hz := rv_zero (Gly.rr_cut (l := s.data.toList.drop p) (n := 4) (by have := HB.out; omega) hk1 hlt (by rw [HY.out]; exact hc))
        have HZ := Lib.hid hz
        clear hz
        rcases hc with hc | hc
        · go_wp2
          go_ret2
          exact ⟨by rw [HZ.out]; rfl, rfl⟩
        · go_wp2
          go_ret2
          exact ⟨by rw [HZ.out]; rfl, rfl⟩
      · have hc1 : 128 ≤ (s[p + k]).toNat := by omega
        have hc2 : (s[p + k]).toNat ≤ 191 := by omega
        clear hc
        go_wp2
        go_round
        case rel => exact ⟨k + 1, by omega, by omega, by go_num, Lib.hid (by rw [HP.out]), Lib.hid (fun j hj1 hj2 => by
          by_cases e : j = k
          · subst e; unfold Gly.cont; rw [HY.out]; exact ⟨hc1, hc2⟩
          · exact HJ.out j hj1 (by omega))⟩
        case measure => simp [intOf]; omega
    · have hkn : k = 4 := by omega
      subst hkn
      have hf : Gly.rr (s.data.toList.drop p) = Gly.out (Gly.pr (s.data.toList.drop p) 240 4) 4 65536 := Gly.rr_four HB.out (by rw [len_drop]; exact hl) (HJ.out 1 (by omega) (by omega)) (HJ.out 2 (by omega) (by omega)) (HJ.out 3 (by omega) (by omega))
      generalize Gly.pr (s.data.toList.drop p) 240 4 = R at *
      have HF := Lib.hid hf
      clear hf
      go_wp2
      all_goals
        go_ret2
        first
          | exact ⟨by rw [rv_zero (HF.out.trans (Gly.out_bad (by omega)))]; rfl, rfl⟩
          | exact ⟨by rw [rv_out (HF.out.trans (Gly.out_good (by omega))) (by omega)]; rfl, rfl⟩

theorem rune_any (s : ByteArray) (p : Nat) (hp : p < s.size) (hs : s.size ≤ 4000000) (w : World) :
    Calls Tryz.prog 23 #[.string s, .int .i64 p] w fun e w' => e = .returned (rv (s.data.toList.drop p)) ∧ w = w' := by
  by_cases c1 : (s[p]).toNat < 128
  · exact rune_one s p hp hs w c1
  · by_cases c2 : (128 ≤ (s[p]).toNat ∧ (s[p]).toNat < 192) ∨ 248 ≤ (s[p]).toNat
    · exact rune_none s p hp hs w c2
    · by_cases c3 : (s[p]).toNat < 224
      · by_cases hl : 2 ≤ s.size - p
        · exact rune_long2 s p hp hs w (by omega) c3 hl
        · exact rune_short2 s p hp hs w (by omega) c3 (by omega)
      · by_cases c4 : (s[p]).toNat < 240
        · by_cases hl : 3 ≤ s.size - p
          · exact rune_long3 s p hp hs w (by omega) c4 hl
          · exact rune_short3 s p hp hs w (by omega) c4 (by omega)
        · by_cases hl : 4 ≤ s.size - p
          · exact rune_long4 s p hp hs w (by omega) (by omega) hl
          · exact rune_short4 s p hp hs w (by omega) (by omega) (by omega)
end Ref
end Go.Proofs.YtdlfbikpniionaaGreatDoor
