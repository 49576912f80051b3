/-
  SpoolSums, walked: the sum of any bytes is the document's.
-/
import Derived.Test.YtkfmmdiflbnhgaaSgpE
import Derived.Test.YtkfmmdiflbnhgaaSgpD
namespace Go.Proofs.Ytkfmmdiflbnhgaa
set_option maxRecDepth 100000
open Go.RowKit
open Ta (IsBytes)
namespace Sp
namespace LawS13Sums
set_option maxHeartbeats 4000000 in
set_option maxRecDepth 100000 in
theorem walk (l : List UInt8) (v : Value) (w : World) (hv : IsBytes w v l) :
    Calls Try.prog 3 #[v] w fun e x => e = .returned (.bool true) ∧ Below w.heap.size w x := by
  have HV := Lib.hid hv
  obtain ⟨ao, cap, rfl, -, -, -⟩ := hv
  go_enter Try.func3, Try.ntmps3
  go_wp2_with fail
  refine (awake_any w).mono ?_
  rintro e x1 ⟨rfl, hb⟩
  have H1 := Lib.hid hb
  clear hb
  by_cases h3 : 3000 < l.length
  · have e3 : (3000 : Int) < (l.length : Int) := by omega
    go_wp2_with fail
    refine (awake_any x1).mono ?_
    rintro e x2 ⟨rfl, hb⟩
    have H2 := Lib.hid (H1.out.trans (hb.mono H1.out.size))
    clear hb
    go_wp2_with fail
    go_ret
    exact ⟨rfl, H2.out⟩
  · have e3 : ¬ (3000 : Int) < (l.length : Int) := by omega
    have HS := Lib.hid (sum_any _ l x1 (Ta.IsBytes.below HV.out H1.out))
    go_wp2_with fail
    refine HS.out.mono ?_
    rintro e x2 ⟨rfl, hb⟩
    have H2 := Lib.hid (H1.out.trans (hb.mono H1.out.size))
    have HD := Lib.hid (dsum_any _ l x2 (Ta.IsBytes.below HV.out H2.out))
    clear hb
    go_wp2_with fail
    refine HD.out.mono ?_
    rintro e x3 ⟨rfl, hx⟩
    rw [hx]
    clear hx x3
    have hcc : ((crc l : Nat) : Int) == ((crc l : Nat) : Int) := beq_self_eq_true _
    generalize crc l = C at *
    go_wp2_with fail
    go_ret
    exact ⟨by simp, H2.out⟩
end LawS13Sums
end Sp
end Go.Proofs.Ytkfmmdiflbnhgaa
