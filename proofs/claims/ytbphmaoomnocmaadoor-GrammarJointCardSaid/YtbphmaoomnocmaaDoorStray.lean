/-
  Package glyph in this program: what stray answers.
-/
import Derived.Test.YtbphmaoomnocmaaDoorBase
namespace Go.Proofs.YtbphmaoomnocmaaDoor
open Go.RowKit
namespace Gl
set_option maxHeartbeats 1000000 in
set_option maxRecDepth 100000 in
/-- stray, at the rune that a range tells. -/
theorem stray_any (s : ByteArray) (p : Nat) (r : Nat) (hp : p < s.size) (hr : r ≤ 1114111) (w : World) :
    Calls Tryd.prog 83 #[.string s, .int .i64 p, .int .i32 r] w fun e w' => e = .returned (.bool ((r : Int) == 65533 && !Lib.hasPrefix (s.data.toList.drop p) [239, 191, 189])) ∧ w = w' := by
  by_cases h : r = 65533
  · subst h
    have ht : (s.data.toList.drop p).take (s.size - p) = s.data.toList.drop p := List.take_of_length_le (by rw [List.length_drop, Lib.size_eq]; exact Nat.le_refl _)
    go_enter Tryd.func83, Tryd.ntmps83
    go_wp2_with (go_at_call 29; refine (flip (Tryd.strings_HasPrefix _ _ _)).mono ?_; rintro e w' ⟨rfl, rfl⟩)
    go_ret
    exact ⟨by simp, rfl⟩
  · have h1 : ((r : Int) == 65533) = false := by simp; omega
    go_enter Tryd.func83, Tryd.ntmps83
    go_wp2
    go_ret
    exact ⟨by simp [h1], rfl⟩
theorem stray_dec (s : ByteArray) (p : Nat) (hp : p < s.size) (w : World) :
    Calls Tryd.prog 83 #[.string s, .int .i64 p, .int .i32 ((Utf8.decode s p).1 : Int)] w fun e w' => e = .returned (.bool (Gly.bad (s.data.toList.drop p))) ∧ w = w' := by
  have hn := drop_ne hp
  have h := stray_any s p (Utf8.decode s p).1 hp (by rw [Gly.dec_at]; exact Gly.dec_max _ hn) w
  rw [show ((((Utf8.decode s p).1 : Nat) : Int) == 65533 && !Lib.hasPrefix (s.data.toList.drop p) [239, 191, 189]) = Gly.bad (s.data.toList.drop p) by rw [Gly.dec_at]; exact Gly.stray_eq _ hn] at h
  exact h

end Gl
end Go.Proofs.YtbphmaoomnocmaaDoor
