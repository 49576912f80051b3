/-
  The document's Compare (stileref01), on its own.
-/
import Derived.Test.YtldacdpejncbnaaBase
import Derived.Lib.Bytealg
namespace Go.Proofs.Ytldacdpejncbnaa
open Go.RowKit
namespace Gly
open Go
def ints (a b : Int) : Int := if a < b then -1 else if b < a then 1 else 0
theorem cmp_step {a b : List UInt8} (ha : a ≠ []) (hb : b ≠ []) : Lib.compareBytes a b = if byte a 0 < byte b 0 then -1 else if byte b 0 < byte a 0 then 1 else Lib.compareBytes (a.drop 1) (b.drop 1) := by
  cases a with
  | nil => exact absurd rfl ha
  | cons x xs =>
    cases b with
    | nil => exact absurd rfl hb
    | cons y ys =>
      have h1 : (x < y) = (x.toNat < y.toNat) := propext UInt8.lt_iff_toNat_lt
      have h2 : (y < x) = (y.toNat < x.toNat) := propext UInt8.lt_iff_toNat_lt
      simp only [Lib.compareBytes, h1, h2]
      rfl
theorem cmp_end {a b : List UInt8} (h : a = [] ∨ b = []) : Lib.compareBytes a b = ints a.length b.length := by
  cases a with
  | nil =>
    cases b with
    | nil => rfl
    | cons y ys => simp [Lib.compareBytes, ints] <;> omega
  | cons x xs =>
    cases b with
    | nil => simp [Lib.compareBytes, ints] <;> omega
    | cons y ys => rcases h with h | h <;> cases h
end Gly
namespace Gl
theorem quiet_add_same {P : Program} {f : FuncId} {args : Array Value} {w : World} {a n : Nat} {v : Value}
    (h : Calls P f args (w.drewN (a + n)) fun e w' => e = .returned v ∧ w' = w.drewN (a + n)) :
    Calls P f args (w.drewN (a + n)) fun e w'' => e = .returned v ∧ ∃ m, w'' = w.drewN (a + m) :=
  h.mono fun _ _ ⟨he, hm⟩ => ⟨he, n, hm⟩

end Gl
namespace Ref
theorem ints_any (x y : Int) (w : World) :
    Calls Try.prog 42 #[.int .i64 x, .int .i64 y] w fun e w' => e = .returned (.int .i64 (Gly.ints x y)) ∧ w' = w := by
  by_cases c1 : x < y
  · rw [show Gly.ints x y = -1 by rw [Gly.ints, if_pos c1]]
    go_enter Try.func42, Try.ntmps42
    go_wp2
    go_ret
    exact ⟨rfl, rfl⟩
  · by_cases c2 : y < x
    · rw [show Gly.ints x y = 1 by rw [Gly.ints, if_neg c1, if_pos c2]]
      go_enter Try.func42, Try.ntmps42
      go_wp2
      go_ret
      exact ⟨rfl, rfl⟩
    · rw [show Gly.ints x y = 0 by rw [Gly.ints, if_neg c1, if_neg c2]]
      go_enter Try.func42, Try.ntmps42
      go_wp2
      go_ret
      exact ⟨rfl, rfl⟩

set_option maxHeartbeats 4000000 in
set_option maxRecDepth 100000 in
theorem compare_any (a b : ByteArray) (w : World) (ha : a.size ≤ 4000000) (hb : b.size ≤ 4000000) :
    Calls Try.prog 33 #[.string a, .string b] w fun e w' => e = .returned (.int .i64 (Lib.compareBytes a.data.toList b.data.toList)) ∧ Below w.heap.size w w' := by
  go_enter Try.func33, Try.ntmps33
  go_wp2
  go_loopw [5] (fun i wr => ∃ (k : Nat), i = .int .i64 k ∧ Below w.heap.size w wr ∧ Hid (Lib.compareBytes (a.data.toList.drop k) (b.data.toList.drop k) = Lib.compareBytes a.data.toList b.data.toList) ∧ k ≤ a.size ∧ k ≤ b.size) (fun i _ => a.size - (intOf i).toNat)
  case atStart => exact ⟨0, rfl, Below.refl _ _, rfl, by omega, by omega⟩
  case round =>
    obtain ⟨k, rfl, hbw, HS, hka, hkb⟩ := hrel
    by_cases h1 : k < a.size
    · by_cases h2 : k < b.size
      · have hst := Gly.cmp_step (Gl.drop_ne h1) (Gl.drop_ne h2)
        rw [byte_at0 h1, byte_at0 h2, List.drop_drop, List.drop_drop, HS.out] at hst
        have b1 := (a[k]).toNat_lt
        have b2 := (b[k]).toNat_lt
        by_cases he : (a[k]).toNat = (b[k]).toNat
        · rw [if_neg (by omega), if_neg (by omega)] at hst
          have HN := Lib.hid hst.symm
          have e1 : (((a[k]).toNat : Int) != ((b[k]).toNat : Int)) = false := by rw [he]; simp
          clear hst he
          go_wp2
          go_quiet (fail)
          go_wp2
          go_roundw
          case rel => exact ⟨k + 1, by go_num, below_drewN hbw _, HN, by omega, by omega⟩
          case measure => simp [intOf]; omega
        · have hi : Gly.ints ((a[k]).toNat : Int) ((b[k]).toNat : Int) = Lib.compareBytes a.data.toList b.data.toList := by
            rw [hst, Gly.ints]
            by_cases c : (a[k]).toNat < (b[k]).toNat
            · rw [if_pos (by omega), if_pos c]
            · rw [if_neg (by omega), if_pos (by omega), if_neg c, if_pos (by omega)]
          have hcl := fun W => ints_any ((a[k]).toNat : Int) ((b[k]).toNat : Int) W
          rw [hi] at hcl
          have HC := Lib.hid hcl
          have e1 : (((a[k]).toNat : Int) != ((b[k]).toNat : Int)) = true := by rw [bne_iff_ne]; omega
          clear hst he hi hcl
          go_wp2
          go_quiet (fail)
          go_wp2_with fail
          have hw1 : IntKind.i64.wrap ((a[k]).toNat : Int) = ((a[k]).toNat : Int) := by rw [IntKind.wrap_i64]; omega
          have hw2 : IntKind.i64.wrap ((b[k]).toNat : Int) = ((b[k]).toNat : Int) := by rw [IntKind.wrap_i64]; omega
          go_quiet ((go_at_call 42; exact Gl.quiet_add_same (HC.out _)))
          go_wp2
          go_ret
          exact ⟨rfl, below_drewN (below_drewN hbw _) _⟩
      · have hst := Gly.cmp_end (a := a.data.toList.drop k) (b := b.data.toList.drop k) (Or.inr (Gl.drop_end h2))
        rw [HS.out, List.length_drop, List.length_drop, ← Lib.size_eq, ← Lib.size_eq] at hst
        have hi : Gly.ints (a.size : Int) (b.size : Int) = Lib.compareBytes a.data.toList b.data.toList := by rw [hst]; unfold Gly.ints; repeat' split <;> omega
        have hcl := fun W => ints_any (a.size : Int) (b.size : Int) W
        rw [hi] at hcl
        have HC := Lib.hid hcl
        clear hst hi hcl
        go_wp2_with (go_at_call 42; refine (HC.out _).mono ?_; rintro e w2 ⟨rfl, rfl⟩)
        go_ret
        exact ⟨rfl, hbw⟩
    · have hst := Gly.cmp_end (a := a.data.toList.drop k) (b := b.data.toList.drop k) (Or.inl (Gl.drop_end h1))
      rw [HS.out, List.length_drop, List.length_drop, ← Lib.size_eq, ← Lib.size_eq] at hst
      have hi : Gly.ints (a.size : Int) (b.size : Int) = Lib.compareBytes a.data.toList b.data.toList := by rw [hst]; unfold Gly.ints; repeat' split <;> omega
      have hcl := fun W => ints_any (a.size : Int) (b.size : Int) W
      rw [hi] at hcl
      have HC := Lib.hid hcl
      clear hst hi hcl
      go_wp2_with (go_at_call 42; refine (HC.out _).mono ?_; rintro e w2 ⟨rfl, rfl⟩)
      go_ret
      exact ⟨rfl, hbw⟩

end Ref
end Go.Proofs.Ytldacdpejncbnaa
