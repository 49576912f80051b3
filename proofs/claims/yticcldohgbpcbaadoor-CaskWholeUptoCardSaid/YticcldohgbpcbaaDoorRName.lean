/-
  The document's Name.
-/
import Derived.Test.YticcldohgbpcbaaDoorMgMem
import Derived.Test.YticcldohgbpcbaaDoorMgPure
namespace Go.Proofs.YticcldohgbpcbaaDoor
open Go.RowKit
namespace Ref

set_option maxHeartbeats 2000000 in
set_option maxRecDepth 100000 in
theorem name_free (s : ByteArray) (w : World) (hs : s.size ≤ 9223372036854775807) :
    Calls Tryd.prog 42 #[.string s] w fun e w' => e = .returned (.bool (Gly.nameB s.data.toList)) ∧ w = w' := by
  go_enter Tryd.func42, Tryd.ntmps42
  go_wp2
  go_loop [3] (fun i => ∃ (k : Nat), i = .int .i64 k ∧ Hid (Gly.nameOk (k == 0) (s.data.toList.drop k) = Gly.nameOk true s.data.toList) ∧ k ≤ s.size) (fun i => s.size - (intOf i).toNat)
  case atStart => exact ⟨0, rfl, rfl, by omega⟩
  case round =>
    obtain ⟨k, rfl, HS, hk⟩ := hrel
    by_cases hp : k < s.size
    · have hne := Gl.drop_ne hp
      have hst := Gly.nameOk_step hne (k == 0)
      rw [byte_at0 hp, List.drop_drop, HS.out] at hst
      have hby := (s[k]).toNat_lt
      have hpz : (k + 1 == 0) = false := by simp
      have HZ := Lib.hid hpz
      clear hpz hne
      by_cases hl : 97 ≤ (s[k]).toNat ∧ (s[k]).toNat ≤ 122
      · rw [show Gly.letterB (s[k]).toNat = true by simp [Gly.letterB]; exact hl, Bool.true_or, Bool.true_and] at hst
        have HN := Lib.hid hst
        obtain ⟨l1, l2⟩ := hl
        clear hst
        go_wp2
        go_round
        case rel => exact ⟨k + 1, by go_num, Lib.hid (by rw [HZ.out, HN.out]), by omega⟩
        case measure => simp [intOf]; omega
      · rw [show Gly.letterB (s[k]).toNat = false by simp [Gly.letterB]; omega, Bool.false_or] at hst
        by_cases h0 : k = 0
        · subst h0
          have HN := Lib.hid hst
          clear hst
          rcases (show (s[0]).toNat < 97 ∨ 122 < (s[0]).toNat by omega) with h1 | h1
          all_goals
            clear hl
            go_wp2
            go_ret
            exact ⟨by rw [Gly.nameB, HN.out]; simp, rfl⟩
        · have p0 : (k == 0) = false := by simp; omega
          have p1 : ((k : Int) == 0) = false := by simp; omega
          rw [p0] at hst
          clear p0
          by_cases hd : 48 ≤ (s[k]).toNat ∧ (s[k]).toNat ≤ 57
          · rw [show Gly.digitB (s[k]).toNat = true by simp [Gly.digitB]; exact hd] at hst
            have HN := Lib.hid hst
            obtain ⟨d1, d2⟩ := hd
            clear hst hl
            go_wp2
            go_round
            case rel => exact ⟨k + 1, by go_num, Lib.hid (by rw [HZ.out, HN.out]; simp), by omega⟩
            case measure => simp [intOf]; omega
          · rw [show Gly.digitB (s[k]).toNat = false by simp [Gly.digitB]; omega, Bool.false_or] at hst
            by_cases h95 : (s[k]).toNat = 95
            · rw [h95] at hst
              have HN := Lib.hid hst
              have hn1 : (((s[k]).toNat : Int) != 95) = false := by rw [h95]; rfl
              have b1 : 58 ≤ (s[k]).toNat := by omega
              have b2 : (s[k]).toNat ≤ 96 := by omega
              clear hst hl hd h95
              go_wp2
              go_round
              case rel => exact ⟨k + 1, by go_num, Lib.hid (by rw [HZ.out, HN.out]; simp), by omega⟩
              case measure => simp [intOf]; omega
            · rw [show ((s[k]).toNat == 95) = false by simp [h95]] at hst
              have HN := Lib.hid hst
              have hn1 : (((s[k]).toNat : Int) != 95) = true := by rw [bne_iff_ne]; omega
              clear hst
              rcases (show (s[k]).toNat < 48 ∨ (57 < (s[k]).toNat ∧ (s[k]).toNat < 97) ∨ 122 < (s[k]).toNat by omega) with h1 | ⟨h1, h2⟩ | h1
              all_goals
                clear hl hd h95
                go_wp2
                go_ret
                exact ⟨by rw [Gly.nameB, HN.out]; simp, rfl⟩
    · have hc := HS.out
      rw [Gl.drop_end hp, Gly.nameOk] at hc
      have hke : k = s.size := by omega
      have hfin : Gly.nameB s.data.toList = decide (1 ≤ s.size ∧ s.size ≤ 16) := by rw [Gly.nameB, ← hc, Bool.and_true, ← Lib.size_eq]
      have HF := Lib.hid hfin
      clear hc hfin hke
      by_cases g1 : 1 ≤ s.size
      · by_cases g2 : s.size ≤ 16
        · go_wp2
          go_ret
          exact ⟨by rw [HF.out]; simp [g1]; omega, rfl⟩
        · go_wp2
          go_ret
          exact ⟨by rw [HF.out]; simp [g1]; omega, rfl⟩
      · go_wp2
        go_ret
        exact ⟨by rw [HF.out]; simp [g1], rfl⟩
theorem name_any (s : ByteArray) (w : World) (hs : s.size ≤ 4000000) :
    Calls Tryd.prog 42 #[.string s] w fun e w' => e = .returned (.bool (Gly.nameB s.data.toList)) ∧ w = w' := name_free s w (by omega)
end Ref
end Go.Proofs.YticcldohgbpcbaaDoor
