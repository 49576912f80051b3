/-
  Package glyph in this program, second part: Count, Valid and Name.
-/
import Derived.Test.YtldfobciojmlnaaDoorGly
namespace Go.Proofs.YtldfobciojmlnaaDoor
open Go.RowKit
namespace Ref

theorem byte_at {s : ByteArray} {p k : Nat} (h : p + k < s.size) : Gly.byte (s.data.toList.drop p) k = (s[p + k]).toNat := by
  unfold Gly.byte
  rw [Gly.getD_drop]
  have h' : p + k < s.data.toList.length := by rw [← Lib.size_eq]; exact h
  rw [List.getD, List.getElem?_eq_getElem h']
  simp
  rfl
theorem byte_at0 {s : ByteArray} {p : Nat} (h : p < s.size) : Gly.byte (s.data.toList.drop p) 0 = (s[p]).toNat := byte_at (k := 0) h
theorem len_drop (s : ByteArray) (p : Nat) : (s.data.toList.drop p).length = s.size - p := by rw [List.length_drop, ← Lib.size_eq]

end Ref
namespace Gl

/-- What Count answers. -/
def cntV : Option Nat → Value
  | some n => .tuple #[.int .i64 n, .int .i64 0]
  | none => .tuple #[.int .i64 0, .int .i64 4]

theorem width (s : ByteArray) (p : Nat) (h : p < s.size) : 1 ≤ (Utf8.decode s p).2 ∧ p + (Utf8.decode s p).2 ≤ s.size := by
  have := Gly.dec_width _ (drop_ne h)
  rw [Gly.dec_at]
  rw [List.length_drop, ← Lib.size_eq] at this
  omega

theorem drop_next (s : ByteArray) (p : Nat) : (s.data.toList.drop p).drop (Gly.dec (s.data.toList.drop p)).2 = s.data.toList.drop (p + (Utf8.decode s p).2) := by
  rw [List.drop_drop, Gly.dec_at]

theorem drop_end {s : ByteArray} {p : Nat} (h : ¬ p < s.size) : s.data.toList.drop p = [] := List.drop_eq_nil_of_le (by rw [← Lib.size_eq]; omega)

set_option maxHeartbeats 2000000 in
set_option maxRecDepth 100000 in
theorem count_any (s : ByteArray) (w : World) (hs : s.size ≤ 1000000) :
    Calls Tryd.prog 10 #[.string s] w fun e w' => e = .returned (cntV (Gly.cnt 0 s.data.toList)) ∧ Below w.heap.size w w' := by
  go_enter Tryd.func10, Tryd.ntmps10
  go_wp2
  go_loopw [4] (fun v wr => ∃ (pos n : Nat), v = .int .i64 n ∧ wr.heap[w.heap.size]? = some (.stringIter s pos) ∧ Below w.heap.size w wr ∧ Hid (Gly.cnt n (s.data.toList.drop pos) = Gly.cnt 0 s.data.toList) ∧ n ≤ pos ∧ pos ≤ s.size) (fun _ wr => s.size - wr.iterPos w.heap.size)
  case atStart => exact ⟨0, 0, rfl, World.iter_heap w s 0, (Below.refl _ _).alloc (Nat.le_refl _) _, rfl, by omega, by omega⟩
  case round =>
    obtain ⟨pos, n, rfl, hit, hbw, HS, hn, hps⟩ := hrel
    have hpos0 := iterPos_of hit
    by_cases hp : pos < s.size
    · have hnx : ∀ ty, (Instr.next (.pointer (some ⟨w.heap.size, 0, none⟩)) true ty).run Tryd.prog wr = _ := fun ty => Lib.run_next_any_at wr w.heap.size s pos ty hit hp
      have hwd := width s pos hp
      have hit2 := Lib.iterAt_heap wr w.heap.size s pos (pos + (Utf8.decode s pos).2) hit
      have hbw2 := Lib.below_iterAt hbw (k := w.heap.size) (Nat.le_refl _) s (pos + (Utf8.decode s pos).2)
      obtain ⟨W1, hW1⟩ : ∃ W1, W1 = wr.iterAt w.heap.size s (pos + (Utf8.decode s pos).2) := ⟨_, rfl⟩
      rw [← hW1] at hnx hit2 hbw2
      clear hW1 hit hbw
      have hst := stray_dec s pos hp hs
      cases hb : Gly.bad (s.data.toList.drop pos) with
      | true =>
        have hc := HS.out
        rw [Gly.cnt_bad (drop_ne hp) hb] at hc
        rw [hb] at hst
        have HST := Lib.hid hst
        have HC := Lib.hid hc
        clear hst hb hc
        go_wp2_with (go_at_call 26; refine (HST.out _).mono ?_; rintro e w' ⟨rfl, rfl⟩)
        go_ret2
        exact ⟨by rw [← HC.out]; rfl, hbw2⟩
      | false =>
        have hc := HS.out
        rw [Gly.cnt_step (drop_ne hp) hb, drop_next] at hc
        rw [hb] at hst
        have HST := Lib.hid hst
        have HC := Lib.hid hc
        clear hst hb hc
        go_wp2_with (go_at_call 26; refine (HST.out _).mono ?_; rintro e w' ⟨rfl, rfl⟩)
        go_roundw
        case rel => exact ⟨_, n + 1, by go_num, hit2, hbw2, HC, by omega, by omega⟩
        case measure => rw [iterPos_of hit2, hpos0]; omega
    · have hnx : ∀ ty, (Instr.next (.pointer (some ⟨w.heap.size, 0, none⟩)) true ty).run Tryd.prog wr = _ := fun ty => Lib.run_next_end_at wr w.heap.size s pos ty hit hp
      have hc := HS.out
      rw [drop_end hp, Gly.cnt_nil] at hc
      have HC := Lib.hid hc
      clear hc
      go_wp2
      go_ret2
      exact ⟨by rw [← HC.out]; rfl, hbw⟩

theorem valid_any (s : ByteArray) (w : World) (hs : s.size ≤ 1000000) :
    Calls Tryd.prog 12 #[.string s] w fun e w' => e = .returned (.bool (Gly.cnt 0 s.data.toList).isSome) ∧ Below w.heap.size w w' := by
  have hc := count_any s w hs
  cases h : Gly.cnt 0 s.data.toList with
  | none =>
    rw [h] at hc
    have HC := Lib.hid hc
    clear hc h
    go_enter Tryd.func12, Tryd.ntmps12
    go_wp2_with (go_at_call 10; refine HC.out.mono ?_; rintro e w' ⟨rfl, hb⟩; unfold cntV)
    go_ret
    exact ⟨rfl, hb⟩
  | some n =>
    rw [h] at hc
    have HC := Lib.hid hc
    clear hc h
    go_enter Tryd.func12, Tryd.ntmps12
    go_wp2_with (go_at_call 10; refine HC.out.mono ?_; rintro e w' ⟨rfl, hb⟩; unfold cntV)
    go_ret
    exact ⟨rfl, hb⟩
end Gl
end Go.Proofs.YtldfobciojmlnaaDoor
