/-
  Package glyph in this program, first part: what each small function answers: stray, letter, digit, shown, and plain (over strings.ContainsRune at the ten reserved signs).
-/
import Derived.Test.YtldfobciojmlnaaDoorGlyPureB
import Derived.Test.YtldfobciojmlnaaDoorShelf
import Derived.WalkKit
import Derived.WalkSmall
import Derived.BigCall
import Derived.BigQuiet
import Derived.Deep.QuietTactic
import Derived.Lib.Hide
import Derived.IntWalk
namespace Go.Proofs.YtldfobciojmlnaaDoor
open Go.RowKit
namespace Gl

theorem drop_ne {s : ByteArray} {p : Nat} (h : p < s.size) : s.data.toList.drop p ≠ [] := by
  intro e
  have := congrArg List.length e
  rw [List.length_drop, ← Lib.size_eq] at this
  simp at this; omega

theorem flip {P : Program} {f : FuncId} {a : Array Value} {w : World} {x : Ending} (h : Calls P f a w fun e w' => e = x ∧ w' = w) : Calls P f a w fun e w' => e = x ∧ w = w' :=
  h.mono fun _ _ ⟨a, b⟩ => ⟨a, b.symm⟩

theorem extract_list (s : ByteArray) (p : Nat) : (s.extract p s.size).data.toList = s.data.toList.drop p := by
  rw [Lib.extract_data]
  exact List.take_of_length_le (by rw [List.length_drop, Lib.size_eq]; exact Nat.le_refl _)

set_option maxHeartbeats 1000000 in
set_option maxRecDepth 100000 in
/-- stray, at the rune that a range tells. -/
theorem stray_any (s : ByteArray) (p : Nat) (r : Nat) (hp : p < s.size) (_hs : s.size ≤ 1000000) (hr : r ≤ 1114111) (w : World) :
    Calls Tryd.prog 26 #[.string s, .int .i64 p, .int .i32 r] w fun e w' => e = .returned (.bool ((r : Int) == 65533 && !Lib.hasPrefix (s.data.toList.drop p) [239, 191, 189])) ∧ w = w' := by
  by_cases h : r = 65533
  · subst h
    have ht : (s.data.toList.drop p).take (s.size - p) = s.data.toList.drop p := List.take_of_length_le (by rw [List.length_drop, Lib.size_eq]; exact Nat.le_refl _)
    go_enter Tryd.func26, Tryd.ntmps26
    go_wp2_with (go_at_call 45; refine (flip (Tryd.strings_HasPrefix _ _ _)).mono ?_; rintro e w' ⟨rfl, rfl⟩)
    go_ret
    exact ⟨by simp, rfl⟩
  · have h1 : ((r : Int) == 65533) = false := by simp; omega
    go_enter Tryd.func26, Tryd.ntmps26
    go_wp2
    go_ret
    exact ⟨by simp [h1], rfl⟩
theorem stray_dec (s : ByteArray) (p : Nat) (hp : p < s.size) (hs : s.size ≤ 1000000) (w : World) :
    Calls Tryd.prog 26 #[.string s, .int .i64 p, .int .i32 ((Utf8.decode s p).1 : Int)] w fun e w' => e = .returned (.bool (Gly.bad (s.data.toList.drop p))) ∧ w = w' := by
  have hn := drop_ne hp
  have h := stray_any s p (Utf8.decode s p).1 hp hs (by rw [Gly.dec_at]; exact Gly.dec_max _ hn) w
  rw [show ((((Utf8.decode s p).1 : Nat) : Int) == 65533 && !Lib.hasPrefix (s.data.toList.drop p) [239, 191, 189]) = Gly.bad (s.data.toList.drop p) by rw [Gly.dec_at]; exact Gly.stray_eq _ hn] at h
  exact h

set_option maxHeartbeats 1000000 in
theorem shown_any (r : Nat) (hr : r ≤ 1114111) (w : World) :
    Calls Tryd.prog 35 #[.int .i32 r] w fun e w' => e = .returned (.bool (Gly.shown r)) ∧ w = w' := by
  by_cases e1 : r = 34
  · have d : Gly.shown r = false := by simp [Gly.shown, e1]
    subst e1
    go_enter Tryd.func35, Tryd.ntmps35
    go_wp2
    go_ret
    exact ⟨rfl, rfl⟩
  · by_cases e2 : r = 92
    · have d : Gly.shown r = false := by simp [Gly.shown, e2]
      subst e2
      go_enter Tryd.func35, Tryd.ntmps35
      go_wp2
      go_ret
      exact ⟨rfl, rfl⟩
    · have b1 : ((r : Int) == 34) = false := by simp; omega
      have b2 : ((r : Int) == 92) = false := by simp; omega
      by_cases h1 : 32 ≤ r
      · by_cases h2 : r ≤ 126
        · have d : Gly.shown r = true := by simp [Gly.shown]; omega
          have D := Lib.hid d; clear d
          go_enter Tryd.func35, Tryd.ntmps35
          go_wp2
          go_ret
          exact ⟨by rw [D.out]; simp, rfl⟩
        · by_cases h3 : 161 ≤ r
          · have d : Gly.shown r = true := by simp [Gly.shown]; omega
            have D := Lib.hid d; clear d
            go_enter Tryd.func35, Tryd.ntmps35
            go_wp2
            go_ret
            exact ⟨by rw [D.out]; simp; omega, rfl⟩
          · have d : Gly.shown r = false := by simp [Gly.shown]; omega
            have D := Lib.hid d; clear d
            go_enter Tryd.func35, Tryd.ntmps35
            go_wp2
            go_ret
            exact ⟨by rw [D.out]; simp; omega, rfl⟩
      · have d : Gly.shown r = false := by simp [Gly.shown]; omega
        have D := Lib.hid d; clear d
        go_enter Tryd.func35, Tryd.ntmps35
        go_wp2
        go_ret
        exact ⟨by rw [D.out]; simp; omega, rfl⟩

end Gl
end Go.Proofs.YtldfobciojmlnaaDoor
