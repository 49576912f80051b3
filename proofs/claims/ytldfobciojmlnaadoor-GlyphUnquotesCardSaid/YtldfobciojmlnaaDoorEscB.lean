/-
  Package glyph in this program: escaped.
-/
import Derived.Test.YtldfobciojmlnaaDoorEsc
namespace Go.Proofs.YtldfobciojmlnaaDoor
open Go.RowKit
namespace Gl

theorem encode_list (r : Nat) (h : r ≤ 1114111) : Utf8.encode (r : Int) = ⟨(Lib.encodeRune (r : Int)).toArray⟩ := by
  by_cases hs : 55296 ≤ r ∧ r ≤ 57343
  · have hv : Utf8.valid (r : Int) = false := by simp [Utf8.valid]; omega
    unfold Utf8.encode Lib.encodeRune
    rw [Lib.encodeRuneZ_bad (by omega)]
    simp [hv, Utf8.runeError]
  · have hv : Utf8.valid (r : Int) = true := by simp [Utf8.valid]; omega
    have e : ((r : Int)).toNat = r := by omega
    unfold Utf8.encode Lib.encodeRune
    simp only [hv, if_true, e]
    have u : ∀ (a : Nat) (z : Int), z = a → UInt8.ofNat a = z.toNat.toUInt8 := by intro a z hz; subst hz; rfl
    by_cases c0 : r < 128
    · rw [if_pos c0, Lib.encodeRuneZ_one (by omega) (by omega), u r r rfl]
      rfl
    · by_cases c1 : r < 2048
      · rw [if_neg c0, if_pos c1, Lib.encodeRuneZ_two (by omega) (by omega), u _ (192 + (r : Int) / 64) (by omega), u _ (128 + (r : Int) % 64) (by omega)]
        rfl
      · by_cases c2 : r < 65536
        · rw [if_neg c0, if_neg c1, if_pos c2, Lib.encodeRuneZ_three (by omega), u _ (224 + (r : Int) / 4096) (by omega), u _ (128 + (r : Int) / 64 % 64) (by omega), u _ (128 + (r : Int) % 64) (by omega)]
          rfl
        · rw [if_neg c0, if_neg c1, if_neg c2, Lib.encodeRuneZ_four (by omega) (by omega), u _ (240 + (r : Int) / 262144) (by omega), u _ (128 + (r : Int) / 4096 % 64) (by omega), u _ (128 + (r : Int) / 64 % 64) (by omega), u _ (128 + (r : Int) % 64) (by omega)]
          rfl

def escV : Option (List UInt8 × Nat) → Value
  | some x => .tuple #[.string ⟨x.1.toArray⟩, .int .i64 ((x.2 : Int) + 1)]
  | none => .tuple #[.string ⟨#[]⟩, .int .i64 0]

set_option maxHeartbeats 4000000 in
set_option maxRecDepth 100000 in
theorem escaped_any (s : ByteArray) (w : World) (hs : s.size ≤ 1000000) :
    Calls Tryd.prog 54 #[.string s] w fun e w' => e = .returned (escV (Gly.esc s.data.toList)) ∧ Below w.heap.size w w' := by
  have hix : ∀ W, Calls Tryd.prog 62 #[.string s, .int .u8 125] W fun e w' => e = .returned (.int .i64 (Lib.indexByte s.data.toList 125)) ∧ w' = W := fun W => Tryd.strings_IndexByte s 125 W
  have hge := Lib.indexByte_ge s.data.toList 125
  have hu := Tryd.strings_HasPrefix s ⟨#[92, 117, 123]⟩
  have hx := Tryd.strings_HasPrefix s ⟨#[92, 120, 123]⟩
  have hE := Eq.refl (Gly.esc s.data.toList)
  conv at hE => rhs; unfold Gly.esc
  by_cases h3 : Lib.indexByte s.data.toList 125 < 3
  · rw [if_pos h3] at hE
    rw [hE]
    have HI := Lib.hid hix
    clear hE hix
    generalize Lib.indexByte s.data.toList 125 = o at *
    go_enter Tryd.func54, Tryd.ntmps54
    go_wp2_with (go_at_call 62; refine (HI.out _).mono ?_; rintro e w' ⟨rfl, rfl⟩)
    go_ret2
    exact ⟨rfl, Below.refl _ _⟩
  · rw [if_neg h3] at hE
    obtain ⟨k, hk⟩ : ∃ k : Nat, Lib.indexByte s.data.toList 125 = k := ⟨(Lib.indexByte s.data.toList 125).toNat, by omega⟩
    have hlt := (Gly.indexByte_at hk).1
    rw [← Lib.size_eq] at hlt
    rw [hk] at hE hix h3
    simp only [Int.toNat_natCast] at hE
    have hsl : ∀ W, (Instr.slice 9 (.string s) (some (.int .i64 3)) (some (.int .i64 (k : Int))) none).run Tryd.prog W = .ok (.string (s.extract 3 k)) W := fun W => by
      rw [run_slice_string W 9 s .i64 .i64 _ _ Tryd.underlying9 (by omega) (by omega) (by omega), Int.toNat_natCast]
      rfl
    have hxl : (s.extract 3 k).data.toList = (s.data.toList.drop 3).take (k - 3) := by rw [Lib.extract_data]
    have hhx := fun W => hexadecimal_any (s.extract 3 k) W (by rw [Lib.size_eq, hxl, List.length_take, List.length_drop, ← Lib.size_eq]; omega)
    rw [hxl] at hhx
    have HI := Lib.hid hix
    clear hix hxl
    cases hg : Gly.hexG 0 ((s.data.toList.drop 3).take (k - 3)) with
    | none =>
      rw [hg] at hE hhx
      rw [hE]
      have HH := Lib.hid hhx
      clear hE hhx hg hk
      go_enter Tryd.func54, Tryd.ntmps54
      go_wp2_with (go_at_call 62; refine (HI.out _).mono ?_; rintro e w' ⟨rfl, rfl⟩)
      go_wp2_with (go_at_call 63; refine (HH.out _).mono ?_)
      rintro e w2 ⟨rfl, b2⟩
      simp only [hexV]
      go_wp2
      go_ret2
      exact ⟨rfl, b2⟩
    | some n =>
      rw [hg] at hE hhx
      simp only at hE
      have hn := Gly.hexG_max _ _ _ (by omega) hg
      have HH := Lib.hid hhx
      cases hp : Lib.hasPrefix s.data.toList [92, 117, 123] with
      | true =>
        rw [if_pos hp] at hE
        rw [hE]
        have hu' : ∀ W, Calls Tryd.prog 45 #[.string s, .string ⟨#[92, 117, 123]⟩] W fun e w' => e = .returned (.bool true) ∧ w' = W := fun W => by rw [← hp]; exact hu W
        have HU := Lib.hid hu'
        have hcv : ∀ W : World, (convert 21 9 (.int .i32 (n : Int))).run Tryd.prog W = .ok (.string ⟨(Lib.encodeRune (n : Int)).toArray⟩) W := fun W => by
          rw [← encode_list n hn]
          exact run_convert_int_string W _ _ _ _ (by kernel_rfl) Tryd.underlying9
        clear hE hhx hg hk hu hx hp hu'
        go_enter Tryd.func54, Tryd.ntmps54
        go_wp2_with (go_at_call 62; refine (HI.out _).mono ?_; rintro e w' ⟨rfl, rfl⟩)
        go_wp2_with (go_at_call 63; refine (HH.out _).mono ?_)
        rintro e w2 ⟨rfl, b2⟩
        simp only [hexV]
        go_wp2_with (go_at_call 45; refine (HU.out _).mono ?_; rintro e w' ⟨rfl, rfl⟩)
        go_ret2
        exact ⟨rfl, b2⟩
      | false =>
        rw [if_neg (by rw [hp]; exact Bool.false_ne_true)] at hE
        have hu' : ∀ W, Calls Tryd.prog 45 #[.string s, .string ⟨#[92, 117, 123]⟩] W fun e w' => e = .returned (.bool false) ∧ w' = W := fun W => by rw [← hp]; exact hu W
        have HU := Lib.hid hu'
        cases hq : Lib.hasPrefix s.data.toList [92, 120, 123] with
        | true =>
          have hx' : ∀ W, Calls Tryd.prog 45 #[.string s, .string ⟨#[92, 120, 123]⟩] W fun e w' => e = .returned (.bool true) ∧ w' = W := fun W => by rw [← hq]; exact hx W
          have HX := Lib.hid hx'
          rw [hq] at hE
          by_cases hb : n ≤ 255
          · rw [if_pos (by simpa using hb)] at hE
            rw [hE]
            have hbd := fun W => Ref.one_build (n.toUInt8.toNat : Int) W
            have hst := fun W m h => Ref.one_string n.toUInt8 W m h
            have hnn : (n.toUInt8.toNat : Int) = n := by
              have : n.toUInt8.toNat = n := by rw [UInt8.toNat_ofNat']; omega
              rw [this]
            rw [hnn] at hbd hst
            have HN := Lib.hid hE
            clear hE hhx hg hk hu hx hp hu' hx' hq hnn
            go_enter Tryd.func54, Tryd.ntmps54
            go_wp2_with (go_at_call 62; refine (HI.out _).mono ?_; rintro e w' ⟨rfl, rfl⟩)
            go_wp2_with (go_at_call 63; refine (HH.out _).mono ?_)
            rintro e w2 ⟨rfl, b2⟩
            simp only [hexV]
            go_wp2_with (first | (go_at_call 45; refine (HU.out _).mono ?_; rintro e w' ⟨rfl, rfl⟩) | (go_at_call 45; refine (HX.out _).mono ?_; rintro e w' ⟨rfl, rfl⟩))
            go_ret2
            exact ⟨rfl, b2.alloc b2.size _⟩
          · rw [if_neg (by simpa using hb)] at hE
            rw [hE]
            clear hE hhx hg hk hu hx hp hu' hx' hq
            go_enter Tryd.func54, Tryd.ntmps54
            go_wp2_with (go_at_call 62; refine (HI.out _).mono ?_; rintro e w' ⟨rfl, rfl⟩)
            go_wp2_with (go_at_call 63; refine (HH.out _).mono ?_)
            rintro e w2 ⟨rfl, b2⟩
            simp only [hexV]
            go_wp2_with (first | (go_at_call 45; refine (HU.out _).mono ?_; rintro e w' ⟨rfl, rfl⟩) | (go_at_call 45; refine (HX.out _).mono ?_; rintro e w' ⟨rfl, rfl⟩))
            go_ret2
            exact ⟨rfl, b2⟩
        | false =>
          have hx' : ∀ W, Calls Tryd.prog 45 #[.string s, .string ⟨#[92, 120, 123]⟩] W fun e w' => e = .returned (.bool false) ∧ w' = W := fun W => by rw [← hq]; exact hx W
          have HX := Lib.hid hx'
          rw [hq, Bool.false_and, if_neg Bool.false_ne_true] at hE
          rw [hE]
          clear hE hhx hg hk hu hx hp hu' hx' hq
          go_enter Tryd.func54, Tryd.ntmps54
          go_wp2_with (go_at_call 62; refine (HI.out _).mono ?_; rintro e w' ⟨rfl, rfl⟩)
          go_wp2_with (go_at_call 63; refine (HH.out _).mono ?_)
          rintro e w2 ⟨rfl, b2⟩
          simp only [hexV]
          go_wp2_with (first | (go_at_call 45; refine (HU.out _).mono ?_; rintro e w' ⟨rfl, rfl⟩) | (go_at_call 45; refine (HX.out _).mono ?_; rintro e w' ⟨rfl, rfl⟩))
          go_ret2
          exact ⟨rfl, b2⟩
end Gl
end Go.Proofs.YtldfobciojmlnaaDoor
