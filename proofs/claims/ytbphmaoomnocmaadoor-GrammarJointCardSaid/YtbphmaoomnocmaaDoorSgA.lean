/-
  Layer 6 (sigil): package sigil's kinds of runes; the second rune; how far runes go on.
-/
import Derived.Test.YtbphmaoomnocmaaDoorBase
import Derived.Test.YtbphmaoomnocmaaDoorSgPure
namespace Go.Proofs.YtbphmaoomnocmaaDoor
open Go.RowKit
namespace Sg
open Gl (drop_ne width drop_next drop_end)

/-- What stands at a place of UTF-8 text. -/
theorem at_rune {s : ByteArray} {pos : Nat} {q : List Nat} (h : Gly.runes (s.data.toList.drop pos) = some q) (hp : pos < s.size) :
    ∃ t, q = (Utf8.decode s pos).1 :: t ∧ Gly.runes (s.data.toList.drop (pos + (Utf8.decode s pos).2)) = some t ∧ (Utf8.decode s pos).1 ≤ 1114111 ∧
      ∀ n, Gly.pre (n + 1) (s.data.toList.drop pos) = (Utf8.decode s pos).2 + Gly.pre n (s.data.toList.drop (pos + (Utf8.decode s pos).2)) := by
  have hne := drop_ne hp
  have hb := Gly.runes_good h hne
  have hmx := Gly.dec_max _ hne
  rw [← Gly.dec_at] at hmx
  rw [Gly.runes_step hne hb, drop_next] at h
  cases hu : Gly.runes (s.data.toList.drop (pos + (Utf8.decode s pos).2)) with
  | none => rw [hu] at h; cases h
  | some u =>
    rw [hu, ← Gly.dec_at] at h
    refine ⟨u, (Option.some.inj h).symm, rfl, hmx, fun n => ?_⟩
    rw [Gly.pre_step hne, drop_next, Gly.dec_at]
theorem at_end {s : ByteArray} {pos : Nat} {q : List Nat} (h : Gly.runes (s.data.toList.drop pos) = some q) (hp : ¬ pos < s.size) : q = [] := by
  rw [drop_end hp, Gly.runes_nil] at h
  exact (Option.some.inj h).symm

set_option maxHeartbeats 1000000 in
theorem letter_any (r : Nat) (hr : r ≤ 1114111) (w : World) :
    Calls Tryd.prog 88 #[.int .i32 r] w fun e w' => e = .returned (.bool (letter r)) ∧ w = w' := by
  by_cases h1 : 97 ≤ r
  · by_cases h2 : r ≤ 122
    · have d : letter r = true := by simp [letter]; omega
      have D := Lib.hid d; clear d
      go_enter Tryd.func88, Tryd.ntmps88
      go_wp2
      go_ret
      exact ⟨by rw [D.out]; simp; try omega, rfl⟩
    · have d : letter r = false := by simp [letter]; omega
      have D := Lib.hid d; clear d
      go_enter Tryd.func88, Tryd.ntmps88
      go_wp2
      go_ret
      exact ⟨by rw [D.out]; simp; try omega, rfl⟩
  · have d : letter r = false := by simp [letter]; omega
    have D := Lib.hid d; clear d
    go_enter Tryd.func88, Tryd.ntmps88
    go_wp2
    go_ret
    exact ⟨by rw [D.out]; simp; try omega, rfl⟩

set_option maxHeartbeats 1000000 in
theorem inLine_any (r : Nat) (hr : r ≤ 1114111) (w : World) :
    Calls Tryd.prog 87 #[.int .i32 r] w fun e w' => e = .returned (.bool (inLine r)) ∧ w = w' := by
  have d : inLine r = ((r : Int) != 10) := by
    by_cases h : r = 10
    · subst h; rfl
    · have h1 : ((r : Int) != 10) = true := by simp; omega
      rw [h1]; simp [inLine, h]
  have D := Lib.hid d; clear d
  go_enter Tryd.func87, Tryd.ntmps87
  go_wp2
  go_ret
  exact ⟨by rw [D.out]; rfl, rfl⟩

set_option maxHeartbeats 1000000 in
theorem inWord_any (r : Nat) (hr : r ≤ 1114111) (w : World) :
    Calls Tryd.prog 98 #[.int .i32 r] w fun e w' => e = .returned (.bool (inWord r)) ∧ w = w' := by
  have hl := fun W => letter_any r hr W
  cases hc : letter r with
  | true =>
    have d := letter_inWord hc
    rw [hc] at hl
    have D := Lib.hid d; have HL := Lib.hid hl; clear d hl hc
    go_enter Tryd.func98, Tryd.ntmps98
    go_wp2_with (go_at_call 88; refine (HL.out _).mono ?_; rintro e w' ⟨rfl, rfl⟩)
    go_ret
    exact ⟨by rw [D.out]; rfl, rfl⟩
  | false =>
    have hcc : ¬ (97 ≤ r ∧ r ≤ 122) := by simpa [letter] using hc
    rw [hc] at hl
    have HL := Lib.hid hl; clear hl hc
    by_cases h0 : r = 95
    · subst h0
      go_enter Tryd.func98, Tryd.ntmps98
      go_wp2_with (go_at_call 88; refine (HL.out _).mono ?_; rintro e w' ⟨rfl, rfl⟩)
      go_ret
      exact ⟨rfl, rfl⟩
    · have b0 : ((r : Int) == 95) = false := by simp; omega
      by_cases h1 : 48 ≤ r
      · by_cases h2 : r ≤ 57
        · have d : inWord r = true := by simp [inWord]; omega
          have D := Lib.hid d; clear d hcc
          go_enter Tryd.func98, Tryd.ntmps98
          go_wp2_with (go_at_call 88; refine (HL.out _).mono ?_; rintro e w' ⟨rfl, rfl⟩)
          go_ret
          exact ⟨by rw [D.out]; simp; try omega, rfl⟩
        · have d : inWord r = false := by simp [inWord]; omega
          have D := Lib.hid d; clear d hcc
          go_enter Tryd.func98, Tryd.ntmps98
          go_wp2_with (go_at_call 88; refine (HL.out _).mono ?_; rintro e w' ⟨rfl, rfl⟩)
          go_ret
          exact ⟨by rw [D.out]; simp; try omega, rfl⟩
      · have d : inWord r = false := by simp [inWord]; omega
        have D := Lib.hid d; clear d hcc
        go_enter Tryd.func98, Tryd.ntmps98
        go_wp2_with (go_at_call 88; refine (HL.out _).mono ?_; rintro e w' ⟨rfl, rfl⟩)
        go_ret
        exact ⟨by rw [D.out]; simp; try omega, rfl⟩

set_option maxHeartbeats 1000000 in
theorem blank_any (r : Nat) (hr : r ≤ 1114111) (w : World) :
    Calls Tryd.prog 85 #[.int .i32 r] w fun e w' => e = .returned (.bool (blank r)) ∧ w = w' := by
  by_cases h : r = 9 ∨ r = 10 ∨ r = 13 ∨ r = 32 ∨ r = 12288
  · rcases h with rfl | rfl | rfl | rfl | rfl
    all_goals
      go_enter Tryd.func85, Tryd.ntmps85
      go_wp2
      go_ret
      exact ⟨rfl, rfl⟩
  · have b1 : ((r : Int) == 9) = false := by simp; omega
    have b2 : ((r : Int) == 10) = false := by simp; omega
    have b3 : ((r : Int) == 13) = false := by simp; omega
    have b4 : ((r : Int) == 32) = false := by simp; omega
    have b5 : ((r : Int) == 12288) = false := by simp; omega
    have d : blank r = false := by simp [blank]; omega
    have D := Lib.hid d; clear d h
    go_enter Tryd.func85, Tryd.ntmps85
    go_wp2
    go_ret
    exact ⟨by rw [D.out]; rfl, rfl⟩
end Sg
end Go.Proofs.YtbphmaoomnocmaaDoor
