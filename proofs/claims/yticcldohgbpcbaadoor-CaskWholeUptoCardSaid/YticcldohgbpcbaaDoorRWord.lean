/-
  Layer 5 (tract): Word, the document's.
-/
import Derived.Test.YticcldohgbpcbaaDoorMgPure
import Derived.Test.YticcldohgbpcbaaDoorRName
namespace Go.Proofs.YticcldohgbpcbaaDoor
open Go.RowKit
namespace Tr

theorem rword_any (s : ByteArray) (w : World) (hs : s.size ≤ maxLen) :
    Calls Tryd.prog 26 #[.string s] w fun e x => e = .returned (.bool (word s)) ∧ Below w.heap.size w x := by
  have HC := Lib.hid (Ref.name_free s w (by unfold maxLen at hs; omega))
  have ht : s.toList = s.data.toList := Lib.toList_data s
  have HT := Lib.hid ht
  clear hs
  clear ht
  cases hn : Gly.nameB s.data.toList with
  | false =>
    rw [hn] at HC
    have hw : word s = false := by rw [word, hn, Bool.false_and]
    have HW := Lib.hid hw
    clear hw hn
    go_enter Tryd.func26, Tryd.ntmps26
    go_wp2_with fail
    refine HC.out.mono ?_
    rintro e x ⟨rfl, rfl⟩
    go_wp2_with fail
    go_ret
    exact ⟨by rw [HW.out]; rfl, Below.refl _ _⟩
  | true =>
    rw [hn] at HC
    have hw : word s = (!s.toList == [116, 121, 112, 101] && !s.toList == [114, 101, 108] && !s.toList == [116, 104, 105, 115]) := by rw [word, hn, Bool.true_and, HT.out]
    have HW := Lib.hid hw
    clear hw hn HT
    by_cases h1 : s.toList = [116, 121, 112, 101]
    · rw [h1] at HW
      have HW2 := Lib.hid (HW.out.trans (by rfl : _ = false))
      clear HW
      go_enter Tryd.func26, Tryd.ntmps26
      go_wp2_with fail
      refine HC.out.mono ?_
      rintro e x ⟨rfl, rfl⟩
      go_wp2_with fail
      go_ret
      exact ⟨by rw [HW2.out]; rfl, Below.refl _ _⟩
    · have e1 : (s.toList == [116, 121, 112, 101]) = false := by simpa using h1
      rw [e1] at HW
      by_cases h2 : s.toList = [114, 101, 108]
      · rw [h2] at HW
        have HW2 := Lib.hid (HW.out.trans (by rfl : _ = false))
        clear HW
        go_enter Tryd.func26, Tryd.ntmps26
        go_wp2_with fail
        refine HC.out.mono ?_
        rintro e x ⟨rfl, rfl⟩
        go_wp2_with fail
        go_ret
        exact ⟨by rw [HW2.out]; rfl, Below.refl _ _⟩
      · have e2 : (s.toList == [114, 101, 108]) = false := by simpa using h2
        rw [e2] at HW
        clear h1 h2
        go_enter Tryd.func26, Tryd.ntmps26
        go_wp2_with fail
        refine HC.out.mono ?_
        rintro e x ⟨rfl, rfl⟩
        go_wp2_with fail
        go_ret
        exact ⟨by rw [HW.out]; simp, Below.refl _ _⟩
end Tr
end Go.Proofs.YticcldohgbpcbaaDoor
