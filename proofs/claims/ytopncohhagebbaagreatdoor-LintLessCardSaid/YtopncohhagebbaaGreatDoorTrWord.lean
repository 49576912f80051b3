/-
  Layer 5 (tract): Word, the program's.
-/
import Derived.Test.YtopncohhagebbaaGreatDoorRgN
import Derived.Test.YtopncohhagebbaaGreatDoorGName
namespace Go.Proofs.YtopncohhagebbaaGreatDoor
open Go.RowKit
namespace Tr

theorem word_any (s : ByteArray) (w : World) :
    Calls Tryz.prog 99 #[.string s] w fun e x => e = .returned (.bool (word s)) ∧ Below w.heap.size w x := by
  have HC := Lib.hid (Gl.name_free s w)
  have ht : s.toList = s.data.toList := Lib.toList_data s
  have HT := Lib.hid ht
  clear ht
  cases hn : Gly.nameB s.data.toList with
  | false =>
    rw [hn] at HC
    have hw : word s = false := by rw [word, hn, Bool.false_and]
    have HW := Lib.hid hw
    clear hw hn
    go_enter Tryz.func99, Tryz.ntmps99
    go_wp2_with fail
    refine HC.out.mono ?_
    rintro e x ⟨rfl, hx⟩
    go_wp2_with fail
    go_ret
    exact ⟨by rw [HW.out]; rfl, hx⟩
  | true =>
    rw [hn] at HC
    have hw : word s = (!s.toList == [116, 121, 112, 101] && !s.toList == [114, 101, 108] && !s.toList == [116, 104, 105, 115]) := by rw [word, hn, Bool.true_and, HT.out]
    have HW := Lib.hid hw
    clear hw hn HT
    by_cases h1 : s.toList = [116, 121, 112, 101]
    · rw [h1] at HW
      have HW2 := Lib.hid (HW.out.trans (by rfl : _ = false))
      clear HW
      go_enter Tryz.func99, Tryz.ntmps99
      go_wp2_with fail
      refine HC.out.mono ?_
      rintro e x ⟨rfl, hx⟩
      go_wp2_with fail
      go_ret
      exact ⟨by rw [HW2.out]; rfl, hx⟩
    · have e1 : (s.toList == [116, 121, 112, 101]) = false := by simpa using h1
      rw [e1] at HW
      by_cases h2 : s.toList = [114, 101, 108]
      · rw [h2] at HW
        have HW2 := Lib.hid (HW.out.trans (by rfl : _ = false))
        clear HW
        go_enter Tryz.func99, Tryz.ntmps99
        go_wp2_with fail
        refine HC.out.mono ?_
        rintro e x ⟨rfl, hx⟩
        go_wp2_with fail
        go_ret
        exact ⟨by rw [HW2.out]; rfl, hx⟩
      · have e2 : (s.toList == [114, 101, 108]) = false := by simpa using h2
        rw [e2] at HW
        clear h1 h2
        go_enter Tryz.func99, Tryz.ntmps99
        go_wp2_with fail
        refine HC.out.mono ?_
        rintro e x ⟨rfl, hx⟩
        go_wp2_with fail
        go_ret
        exact ⟨by rw [HW.out]; simp, hx⟩
end Tr
end Go.Proofs.YtopncohhagebbaaGreatDoor
