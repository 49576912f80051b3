/-
  strings.IndexRune at the ten reserved signs and a rune that isn't ASCII: it isn't among them.
-/
import Derived.Test.YtoeaapomjjclaaaDoorBase
namespace Go.Proofs.YtoeaapomjjclaaaDoor
open Go.RowKit
namespace Gl

/-- The ten signs. -/
def res : ByteArray := ⟨#[35, 64, 58, 42, 44, 40, 41, 34, 92, 59]⟩

theorem encode_last (r : Nat) (h0 : 128 ≤ r) (h1 : r ≤ 1114111) (h2 : r < 55296 ∨ 57344 ≤ r) : ∃ rs m, Utf8.encode (r : Int) = rs ∧ (m = 1 ∨ m = 2 ∨ m = 3) ∧ rs.size = m + 1 ∧ ∃ b : UInt8, rs.data[m]? = some b ∧ 128 ≤ b.toNat := by
  have hv : Utf8.valid (r : Int) = true := by simp [Utf8.valid]; omega
  have e : ((r : Int)).toNat = r := by omega
  unfold Utf8.encode
  simp only [hv, if_true, e]
  by_cases c1 : r < 2048
  · rw [if_neg (by omega), if_pos c1]
    refine ⟨_, 1, rfl, by simp, rfl, UInt8.ofNat (128 + r % 64), rfl, ?_⟩
    rw [UInt8.toNat_ofNat']; omega
  · by_cases c2 : r < 65536
    · rw [if_neg (by omega), if_neg c1, if_pos c2]
      refine ⟨_, 2, rfl, by simp, rfl, UInt8.ofNat (128 + r % 64), rfl, ?_⟩
      rw [UInt8.toNat_ofNat']; omega
    · rw [if_neg (by omega), if_neg c1, if_neg c2]
      refine ⟨_, 3, rfl, by simp, rfl, UInt8.ofNat (128 + r % 64), rfl, ?_⟩
      rw [UInt8.toNat_ofNat']; omega

theorem indexByte_none : ∀ (l : List UInt8) (c : UInt8), (∀ b ∈ l, b ≠ c) → Lib.indexByte l c = -1
  | [], _, _ => rfl
  | a :: l, c, h => by
    have h1 : (a == c) = false := by simpa using h a (by simp)
    have h2 := indexByte_none l c (fun b hb => h b (by simp [hb]))
    simp [Lib.indexByte, h1, h2]

theorem tail_none (m : Nat) (b : UInt8) (hb : 128 ≤ b.toNat) : Lib.indexByte (res.data.toList.drop m) b = -1 := by
  refine indexByte_none _ _ fun x hx e => ?_
  have hx' := List.mem_of_mem_drop hx
  have : ∀ y ∈ res.data.toList, y.toNat < 128 := by decide
  have := this x hx'
  rw [e] at this; omega

/-- A quiet callee behind a region that has drawn already. -/
theorem quiet_add_same {P : Program} {f : FuncId} {args : Array Value} {w : World} {a n : Nat} {v : Value}
    (h : Calls P f args (w.drewN (a + n)) fun e w' => e = .returned v ∧ w' = w.drewN (a + n)) :
    Calls P f args (w.drewN (a + n)) fun e w'' => e = .returned v ∧ ∃ m, w'' = w.drewN (a + m) :=
  h.mono fun _ _ ⟨he, hm⟩ => ⟨he, n, hm⟩

set_option maxHeartbeats 4000000 in
set_option maxRecDepth 1000000 in
theorem indexRune_far (r : Nat) (h0 : 128 ≤ r) (h1 : r ≤ 1114111) (h2 : r < 55296 ∨ 57344 ≤ r) (h3 : r ≠ 65533) (w : World) :
    Calls Tryd.prog 75 #[.string res, .int .i32 r] w fun e w' => e = .returned (.int .i64 (-1)) ∧ ∃ n, w' = w.drewN n := by
  obtain ⟨rs, m, he, hm, hsz, b, hb, hb8⟩ := encode_last r h0 h1 h2
  have b1 : ((r : Int) == 65533) = false := by simp; omega
  have hv : Lib.validRune (r : Int) = true := by simp [Lib.validRune]; omega
  have hrs : ∃ h : m < rs.size, rs[m] = b := by
    refine ⟨by omega, ?_⟩
    have h' : m < rs.data.size := by have : rs.size = rs.data.size := rfl; omega
    rw [Array.getElem?_eq_getElem h'] at hb
    exact Option.some.inj hb
  obtain ⟨hml, hrs⟩ := hrs
  have htail := tail_none (m + 1) b hb8
  have hval := flip (Tryd.utf8_ValidRune (r : Int) w)
  rw [hv] at hval
  have hconv : ∀ W, (convert 21 9 (.int .i32 (r : Int))).run Tryd.prog W = .ok (.string rs) W := fun W => by
    rw [← he]
    go_simp
  have HV := Lib.hid hval
  have HRS := Lib.hid hrs
  clear hv hval hrs he
  rcases hm with rfl | rfl | rfl
  · have n1 : ((64 : Int) != (b.toNat : Int)) = true := by rw [bne_iff_ne]; omega
    have hix := Tryd.strings_IndexByte (res.extract 2 10) (b.toNat : Int)
    rw [show (res.extract 2 10).data.toList = res.data.toList.drop 2 from rfl, show ((b.toNat : Int)).toNat.toUInt8 = b by simp, htail] at hix
    have HIX := Lib.hid hix
    have hxr : ∀ W, (Instr.index 9 (.string res) (.int .i64 1)).run Tryd.prog W = .ok (.int .u8 64) W := fun W => by
      rw [run_index_string W 9 res .i64 1 Tryd.underlying9, dif_pos ⟨by omega, by decide⟩]
      rfl
    have hxs : ∀ W, (Instr.index 9 (.string rs) (.int .i64 1)).run Tryd.prog W = .ok (.int .u8 (b.toNat : Int)) W := fun W => by
      rw [run_index_string W 9 rs .i64 1 Tryd.underlying9, dif_pos ⟨by omega, by omega⟩]
      have := HRS.out
      simp [this]
    have hw2 : IntKind.i64.wrap 2 = 2 := by decide
    have hsl : ∀ W, (Instr.slice 9 (.string res) (some (.int .i64 2)) none none).run Tryd.prog W = .ok (.string (res.extract 2 10)) W := fun W => by
      go_simp
      rfl
    clear hix htail h2 h3
    go_enter Tryd.func75, Tryd.ntmps75
    go_wp2_with (go_at_call 80; refine HV.out.mono ?_; rintro e w' ⟨rfl, rfl⟩)
    go_step3
    go_wp2_with fail
    refine wp_loop_once ?_
    go_wp2_with fail
    go_step3
    go_wp2_with fail
    go_quiet (fail)
    go_wp2_with fail
    go_quiet ((go_at_call 79; exact quiet_add_same (HIX.out _)))
    go_wp2_with fail
    rw [Exit.noGoto_ret]
    simp +zetaDelta only [Exit.inBlock, Exit.noGoto_ret, Exit.then]
    go_ret
    exact ⟨rfl, _, rfl⟩
  · have n1 : ((58 : Int) != (b.toNat : Int)) = true := by rw [bne_iff_ne]; omega
    have hix := Tryd.strings_IndexByte (res.extract 3 10) (b.toNat : Int)
    rw [show (res.extract 3 10).data.toList = res.data.toList.drop 3 from rfl, show ((b.toNat : Int)).toNat.toUInt8 = b by simp, htail] at hix
    have HIX := Lib.hid hix
    have hxr : ∀ W, (Instr.index 9 (.string res) (.int .i64 2)).run Tryd.prog W = .ok (.int .u8 58) W := fun W => by
      rw [run_index_string W 9 res .i64 2 Tryd.underlying9, dif_pos ⟨by omega, by decide⟩]
      rfl
    have hxs : ∀ W, (Instr.index 9 (.string rs) (.int .i64 2)).run Tryd.prog W = .ok (.int .u8 (b.toNat : Int)) W := fun W => by
      rw [run_index_string W 9 rs .i64 2 Tryd.underlying9, dif_pos ⟨by omega, by omega⟩]
      have := HRS.out
      simp [this]
    have hw2 : IntKind.i64.wrap 3 = 3 := by decide
    have hsl : ∀ W, (Instr.slice 9 (.string res) (some (.int .i64 3)) none none).run Tryd.prog W = .ok (.string (res.extract 3 10)) W := fun W => by
      go_simp
      rfl
    clear hix htail h2 h3
    go_enter Tryd.func75, Tryd.ntmps75
    go_wp2_with (go_at_call 80; refine HV.out.mono ?_; rintro e w' ⟨rfl, rfl⟩)
    go_step3
    go_wp2_with fail
    refine wp_loop_once ?_
    go_wp2_with fail
    go_step3
    go_wp2_with fail
    go_quiet (fail)
    go_wp2_with fail
    go_quiet ((go_at_call 79; exact quiet_add_same (HIX.out _)))
    go_wp2_with fail
    rw [Exit.noGoto_ret]
    simp +zetaDelta only [Exit.inBlock, Exit.noGoto_ret, Exit.then]
    go_ret
    exact ⟨rfl, _, rfl⟩
  · have n1 : ((42 : Int) != (b.toNat : Int)) = true := by rw [bne_iff_ne]; omega
    have hix := Tryd.strings_IndexByte (res.extract 4 10) (b.toNat : Int)
    rw [show (res.extract 4 10).data.toList = res.data.toList.drop 4 from rfl, show ((b.toNat : Int)).toNat.toUInt8 = b by simp, htail] at hix
    have HIX := Lib.hid hix
    have hxr : ∀ W, (Instr.index 9 (.string res) (.int .i64 3)).run Tryd.prog W = .ok (.int .u8 42) W := fun W => by
      rw [run_index_string W 9 res .i64 3 Tryd.underlying9, dif_pos ⟨by omega, by decide⟩]
      rfl
    have hxs : ∀ W, (Instr.index 9 (.string rs) (.int .i64 3)).run Tryd.prog W = .ok (.int .u8 (b.toNat : Int)) W := fun W => by
      rw [run_index_string W 9 rs .i64 3 Tryd.underlying9, dif_pos ⟨by omega, by omega⟩]
      have := HRS.out
      simp [this]
    have hw2 : IntKind.i64.wrap 4 = 4 := by decide
    have hsl : ∀ W, (Instr.slice 9 (.string res) (some (.int .i64 4)) none none).run Tryd.prog W = .ok (.string (res.extract 4 10)) W := fun W => by
      go_simp
      rfl
    clear hix htail h2 h3
    go_enter Tryd.func75, Tryd.ntmps75
    go_wp2_with (go_at_call 80; refine HV.out.mono ?_; rintro e w' ⟨rfl, rfl⟩)
    go_step3
    go_wp2_with fail
    refine wp_loop_once ?_
    go_wp2_with fail
    go_step3
    go_wp2_with fail
    go_quiet (fail)
    go_wp2_with fail
    go_quiet ((go_at_call 79; exact quiet_add_same (HIX.out _)))
    go_wp2_with fail
    rw [Exit.noGoto_ret]
    simp +zetaDelta only [Exit.inBlock, Exit.noGoto_ret, Exit.then]
    go_ret
    exact ⟨rfl, _, rfl⟩
end Gl
end Go.Proofs.YtoeaapomjjclaaaDoor
