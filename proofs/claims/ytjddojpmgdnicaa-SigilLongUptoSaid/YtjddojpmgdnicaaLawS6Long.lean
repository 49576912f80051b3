/-
  The statement SigilLong at every text of at most 1048576 bytes, and every number.
-/
import Derived.Test.YtjddojpmgdnicaaSgM
import Derived.Test.YtjddojpmgdnicaaRunes
namespace Go.Proofs.Ytjddojpmgdnicaa
open Go.RowKit
namespace LawS6Long
open Sg
open Tr (own_slice)

set_option maxHeartbeats 4000000 in
set_option maxRecDepth 100000 in
theorem walk (s : ByteArray) (c : Int) (w : World) (hs : s.size ≤ 1048576) (hz : (Lit.int .u8 c).wf = true) :
    Calls Try.prog 4 #[.string s, .int .u8 c] w fun e w' => e = .returned (.bool true) ∧ Below w.heap.size w w' := by
  have hc : 0 ≤ c ∧ c ≤ 255 := by
    simp [Lit.wf, IntKind.min, IntKind.max, IntKind.bits, IntKind.signed] at hz
    omega
  clear hz
  have HA := Lib.hid (fun w => awake_any w)
  have hr := fun W => Ref.runes_any s W (by omega)
  cases hq : Gly.runes s.data.toList with
  | none =>
    rw [hq] at hr
    have HR := Lib.hid hr
    clear hr hq
    go_enter Try.func4, Try.ntmps4
    go_wp2_with fail
    refine (HR.out _).mono ?_
    rintro e w1 ⟨rfl, b1⟩
    go_wp2_with fail
    refine (HA.out _).mono ?_
    rintro e w2 ⟨rfl, b2⟩
    replace b2 := b1.trans (b2.mono b1.size)
    go_wp2_with fail
    refine (HA.out _).mono ?_
    rintro e w3 ⟨rfl, b3⟩
    replace b3 := b2.trans (b3.mono b2.size)
    go_wp2
    go_ret
    exact ⟨rfl, b3⟩
  | some q =>
    rw [hq] at hr
    have hq2 := hq
    have HR := Lib.hid hr
    have HQ := Lib.hid hq
    clear hr hq hq2
    by_cases hn : q.length = 0 ∨ 20 < q.length
    · generalize hl : q.length = n at *
      have HL := Lib.hid hl
      clear hl
      rcases hn with h0 | h20
      · subst h0
        go_enter Try.func4, Try.ntmps4
        go_wp2_with fail
        refine (HR.out _).mono ?_
        rintro e w1 ⟨v1, rfl, o1, b1⟩
        rw [HL.out] at o1
        obtain ⟨ao, cap, rfl⟩ := own_slice o1
        clear o1
        go_wp2_with fail
        refine (HA.out _).mono ?_
        rintro e w2 ⟨rfl, b2⟩
        replace b2 := b1.trans (b2.mono b1.size)
        go_wp2_with fail
        refine (HA.out _).mono ?_
        rintro e w3 ⟨rfl, b3⟩
        replace b3 := b2.trans (b3.mono b2.size)
        go_wp2
        go_ret
        exact ⟨rfl, b3⟩
      · have h0 : ((n : Int) == 0) = false := by simp; omega
        go_enter Try.func4, Try.ntmps4
        go_wp2_with fail
        refine (HR.out _).mono ?_
        rintro e w1 ⟨v1, rfl, o1, b1⟩
        rw [HL.out] at o1
        obtain ⟨ao, cap, rfl⟩ := own_slice o1
        clear o1
        go_wp2_with fail
        refine (HA.out _).mono ?_
        rintro e w2 ⟨rfl, b2⟩
        replace b2 := b1.trans (b2.mono b1.size)
        go_wp2_with fail
        refine (HA.out _).mono ?_
        rintro e w3 ⟨rfl, b3⟩
        replace b3 := b2.trans (b3.mono b2.size)
        go_wp2
        go_ret
        exact ⟨rfl, b3⟩
    · obtain ⟨A, hA⟩ : ∃ A, A = 2997 / q.length := ⟨_, rfl⟩
      obtain ⟨R, hR⟩ : ∃ R, R = (c % 7).toNat := ⟨_, rfl⟩
      have hR6 : R ≤ 6 := by omega
      have hA1 : A ≤ 2997 := by rw [hA]; exact Nat.div_le_self _ _
      have hAn : A * q.length ≤ 2997 := by rw [hA]; exact Nat.div_mul_le_self _ _
      have hRn : R * q.length ≤ 120 := Nat.le_trans (Nat.mul_le_mul (show R ≤ 6 from hR6) (show q.length ≤ 20 by omega)) (by omega)
      obtain ⟨y, hy, hyl⟩ := runes_repeat HQ.out (A + R)
      have hsz := runes_size _ _ _ (Nat.le_refl _) HQ.out
      rw [← Lib.size_eq] at hsz
      have hrs : (ByteArray.mk (Lib.repeatL s.data.toList (A + R)).toArray).size ≤ 4000000 := by
        have h1 : (ByteArray.mk (Lib.repeatL s.data.toList (A + R)).toArray).size = (A + R) * s.size := by
          rw [Lib.size_eq, show (ByteArray.mk (Lib.repeatL s.data.toList (A + R)).toArray).data.toList = Lib.repeatL s.data.toList (A + R) by simp, Lib.repeatL_length, ← Lib.size_eq]
        rw [h1]
        exact Nat.le_trans (Nat.mul_le_mul (show A + R ≤ 3003 by omega) (show s.size ≤ 80 by omega)) (by omega)
      have hrp := fun W => Try.strings_Repeat s (A + R) W (by omega) (by
        have := Nat.mul_le_mul (show s.size ≤ 80 by omega) (show A + R ≤ 3003 by omega); omega)
      have hlx := fun W => lex_any (ByteArray.mk (Lib.repeatL s.data.toList (A + R)).toArray) W hrs
      have hla : (ByteArray.mk (Lib.repeatL s.data.toList (A + R)).toArray).data.toList = Lib.repeatL s.data.toList (A + R) := by simp
      rw [hla, hy] at hlx
      have hM : y.length = A * q.length + R * q.length := by rw [hyl, Nat.add_mul]
      have hq1 : (2997 : Int) / (q.length : Int) = (A : Int) := by rw [hA]; simp
      have hq2 : c % 7 = (R : Int) := by omega
      have hmul : ((A : Int) + (R : Int)) * (q.length : Int) = (y.length : Int) := by rw [hyl]; simp
      have hcode : (3000 < y.length ∧ (ans (some y)).1 = 3) ∨ (y.length ≤ 3000 ∧ ((ans (some y)).1 = 0 ∨ (ans (some y)).1 = 10)) := by
        by_cases h : 3000 < y.length
        · exact .inl ⟨h, by rw [ans_long h]⟩
        · refine .inr ⟨by omega, ?_⟩
          cases h2 : (lex (1, 1) y).2.2 with
          | true => exact .inl (by rw [ans_ok h h2])
          | false => exact .inr (by rw [ans_bad h h2])
      generalize ByteArray.mk (Lib.repeatL s.data.toList (A + R)).toArray = S at *
      generalize hans : ans (some y) = an at *
      obtain ⟨code, pl, tk⟩ := an
      simp only at hcode
      have hn1 : 1 ≤ q.length := by omega
      have hn2 : q.length ≤ 20 := by omega
      have hyl2 : y.length ≤ 4000 := by omega
      have HRP := Lib.hid hrp
      have HLX := Lib.hid hlx
      clear hA hR hAn hRn hy hyl hsz hrs hrp hlx hla hM hans hn
      generalize hl : q.length = n at *
      have HL := Lib.hid hl
      clear hl
      generalize y.length = M at *
      have h0 : ((n : Int) == 0) = false := by simp; omega
      have h20 : decide (20 < (n : Int)) = false := by simp; omega
      go_enter Try.func4, Try.ntmps4
      go_wp2_with fail
      refine (HR.out _).mono ?_
      rintro e w1 ⟨v1, rfl, o1, b1⟩
      rw [HL.out] at o1
      obtain ⟨ao, cap, rfl⟩ := own_slice o1
      clear o1
      go_wp2_with fail
      refine (HA.out _).mono ?_
      rintro e w2 ⟨rfl, b2⟩
      replace b2 := b1.trans (b2.mono b1.size)
      have hsum : ((A + R : Nat) : Int) = (A : Int) + (R : Int) := by omega
      have HS := Lib.hid hsum
      clear hsum b1
      go_wp2_with fail
      rw [← HS.out]
      refine (HRP.out _).mono ?_
      rintro e w3 ⟨rfl, b3⟩
      replace b3 := b2.trans (b3.mono b2.size)
      clear b2
      go_wp2_with fail
      refine (HLX.out _).mono ?_
      rintro e w4 ⟨v4, rfl, o4, b4⟩
      replace b4 := b3.trans (b4.mono b3.size)
      obtain ⟨lo, lc, rfl⟩ := own_slice o4
      clear o4 b3
      unfold plV
      rcases hcode with ⟨hM, rfl⟩ | ⟨hM, rfl | rfl⟩
      all_goals
        go_wp2
        go_ret
        exact ⟨rfl, b4.alloc b4.size _⟩
end LawS6Long
end Go.Proofs.Ytjddojpmgdnicaa
