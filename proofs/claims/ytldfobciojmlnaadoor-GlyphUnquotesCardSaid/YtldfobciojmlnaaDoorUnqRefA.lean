/-
  The document's answers in this program: digit, form.
-/
import Derived.Test.YtldfobciojmlnaaDoorUnqRefPure
import Derived.Test.YtldfobciojmlnaaDoorQuoteRef
namespace Go.Proofs.YtldfobciojmlnaaDoor
open Go.RowKit
namespace Ref

def digZ : Option Nat → Int
  | some d => d
  | none => -1

theorem dig_any (c : Nat) (hc : c < 256) (w : World) :
    Calls Tryd.prog 42 #[.int .u8 c] w fun e w' => e = .returned (.int .i64 (digZ (Gly.hv c))) ∧ w = w' := by
  by_cases h : 48 ≤ c ∧ c ≤ 57
  · rw [Gly.hv_digit h]
    obtain ⟨h1, h2⟩ := h
    have e : ((c - 48 : Nat) : Int) = (c : Int) - 48 := by omega
    go_enter Tryd.func42, Tryd.ntmps42
    go_wp2
    go_ret
    exact ⟨by simp only [digZ]; rw [e]; rfl, rfl⟩
  · by_cases h' : 97 ≤ c ∧ c ≤ 102
    · rw [Gly.hv_letter h']
      obtain ⟨h1, h2⟩ := h'
      have e : ((c - 87 : Nat) : Int) = (c : Int) - 97 + 10 := by omega
      go_enter Tryd.func42, Tryd.ntmps42
      go_wp2
      go_ret
      exact ⟨by simp only [digZ]; rw [e]; rfl, rfl⟩
    · rw [Gly.hv_none h h']
      by_cases a : 48 ≤ c
      · by_cases b : 97 ≤ c
        all_goals
          go_enter Tryd.func42, Tryd.ntmps42
          go_wp2
          go_ret
          exact ⟨rfl, rfl⟩
      · go_enter Tryd.func42, Tryd.ntmps42
        go_wp2
        go_ret
        exact ⟨rfl, rfl⟩

theorem build2 (a b : Int) (W : World) : (Instr.buildSlice 48 2 #[(0, .int .u8 a), (1, .int .u8 b)]).run Tryd.prog W = .ok (.slice (some ⟨W.heap.size, 0, none⟩) 2 2) (W.alloc (.cells #[.int .u8 a, .int .u8 b] 5)) := by kernel_rfl
theorem build3 (a b c : Int) (W : World) : (Instr.buildSlice 48 3 #[(0, .int .u8 a), (1, .int .u8 b), (2, .int .u8 c)]).run Tryd.prog W = .ok (.slice (some ⟨W.heap.size, 0, none⟩) 3 3) (W.alloc (.cells #[.int .u8 a, .int .u8 b, .int .u8 c] 5)) := by kernel_rfl
theorem build4 (a b c d : Int) (W : World) : (Instr.buildSlice 48 4 #[(0, .int .u8 a), (1, .int .u8 b), (2, .int .u8 c), (3, .int .u8 d)]).run Tryd.prog W = .ok (.slice (some ⟨W.heap.size, 0, none⟩) 4 4) (W.alloc (.cells #[.int .u8 a, .int .u8 b, .int .u8 c, .int .u8 d] 5)) := by kernel_rfl

theorem u8nat (a : Nat) (h : a < 256) : ((a.toUInt8).toNat : Int) = a := by
  have : a.toUInt8.toNat = a := by rw [UInt8.toNat_ofNat']; omega
  rw [this]

set_option maxHeartbeats 2000000 in
theorem form1 (z : Int) (h0 : 0 ≤ z) (h1 : z < 128) (w : World) :
    Calls Tryd.prog 43 #[.int .i64 z] w fun e w' => e = .returned (.slice (some ⟨w.heap.size, 0, none⟩) 1 1) ∧ w' = w.alloc (.cells #[.int .u8 z] 5) := by
  have hb := one_build
  go_enter Tryd.func43, Tryd.ntmps43
  go_wp2
  go_ret
  exact ⟨rfl, rfl⟩
set_option maxHeartbeats 2000000 in
theorem form2 (z : Int) (h0 : 128 ≤ z) (h1 : z < 2048) (w : World) :
    Calls Tryd.prog 43 #[.int .i64 z] w fun e w' => e = .returned (.slice (some ⟨w.heap.size, 0, none⟩) 2 2) ∧ w' = w.alloc (.cells #[.int .u8 (192 + z / 64), .int .u8 (128 + z % 64)] 5) := by
  have hb := build2
  go_enter Tryd.func43, Tryd.ntmps43
  go_wp2
  go_ret
  exact ⟨rfl, rfl⟩
set_option maxHeartbeats 2000000 in
theorem form3 (z : Int) (h0 : 2048 ≤ z) (h1 : z < 65536) (w : World) :
    Calls Tryd.prog 43 #[.int .i64 z] w fun e w' => e = .returned (.slice (some ⟨w.heap.size, 0, none⟩) 3 3) ∧ w' = w.alloc (.cells #[.int .u8 (224 + z / 4096), .int .u8 (128 + z / 64 % 64), .int .u8 (128 + z % 64)] 5) := by
  have hb := build3
  go_enter Tryd.func43, Tryd.ntmps43
  go_wp2
  go_ret
  exact ⟨rfl, rfl⟩
set_option maxHeartbeats 2000000 in
theorem form4 (z : Int) (h0 : 65536 ≤ z) (h1 : z ≤ 1114111) (w : World) :
    Calls Tryd.prog 43 #[.int .i64 z] w fun e w' => e = .returned (.slice (some ⟨w.heap.size, 0, none⟩) 4 4) ∧ w' = w.alloc (.cells #[.int .u8 (240 + z / 262144), .int .u8 (128 + z / 4096 % 64), .int .u8 (128 + z / 64 % 64), .int .u8 (128 + z % 64)] 5) := by
  have hb := build4
  go_enter Tryd.func43, Tryd.ntmps43
  go_wp2
  go_ret
  exact ⟨rfl, rfl⟩

theorem form_any (n : Nat) (hn : n ≤ 1114111) (w : World) :
    Calls Tryd.prog 43 #[.int .i64 n] w fun e w' => e = .returned (.slice (some ⟨w.heap.size, 0, none⟩) (Gly.formL n).length (Gly.formL n).length) ∧ w' = w.alloc (.cells (Lib.byteCells (Gly.formL n)).toArray 5) := by
  unfold Gly.formL
  by_cases c0 : n < 128
  · rw [if_pos c0]
    refine (form1 n (by omega) (by omega) w).mono ?_
    rintro e w' ⟨rfl, rfl⟩
    refine ⟨rfl, ?_⟩
    simp only [Lib.byteCells, List.map_cons, List.map_nil]
    rw [u8nat _ (by omega)]
  · by_cases c1 : n < 2048
    · rw [if_neg c0, if_pos c1]
      refine (form2 n (by omega) (by omega) w).mono ?_
      rintro e w' ⟨rfl, rfl⟩
      refine ⟨rfl, ?_⟩
      simp only [Lib.byteCells, List.map_cons, List.map_nil]
      rw [u8nat _ (by omega), u8nat _ (by omega), show ((192 + n / 64 : Nat) : Int) = 192 + (n : Int) / 64 by omega, show ((128 + n % 64 : Nat) : Int) = 128 + (n : Int) % 64 by omega]
    · by_cases c2 : n < 65536
      · rw [if_neg c0, if_neg c1, if_pos c2]
        refine (form3 n (by omega) (by omega) w).mono ?_
        rintro e w' ⟨rfl, rfl⟩
        refine ⟨rfl, ?_⟩
        simp only [Lib.byteCells, List.map_cons, List.map_nil]
        rw [u8nat _ (by omega), u8nat _ (by omega), u8nat _ (by omega), show ((224 + n / 4096 : Nat) : Int) = 224 + (n : Int) / 4096 by omega, show ((128 + n / 64 % 64 : Nat) : Int) = 128 + (n : Int) / 64 % 64 by omega, show ((128 + n % 64 : Nat) : Int) = 128 + (n : Int) % 64 by omega]
      · rw [if_neg c0, if_neg c1, if_neg c2]
        refine (form4 n (by omega) (by omega) w).mono ?_
        rintro e w' ⟨rfl, rfl⟩
        refine ⟨rfl, ?_⟩
        simp only [Lib.byteCells, List.map_cons, List.map_nil]
        rw [u8nat _ (by omega), u8nat _ (by omega), u8nat _ (by omega), u8nat _ (by omega), show ((240 + n / 262144 : Nat) : Int) = 240 + (n : Int) / 262144 by omega, show ((128 + n / 4096 % 64 : Nat) : Int) = 128 + (n : Int) / 4096 % 64 by omega, show ((128 + n / 64 % 64 : Nat) : Int) = 128 + (n : Int) / 64 % 64 by omega, show ((128 + n % 64 : Nat) : Int) = 128 + (n : Int) % 64 by omega]
end Ref
end Go.Proofs.YtldfobciojmlnaaDoor
