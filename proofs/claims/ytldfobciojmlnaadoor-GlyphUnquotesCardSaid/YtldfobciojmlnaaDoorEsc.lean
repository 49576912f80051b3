/-
  Package glyph in this program: hexadecimal, escaped.
-/
import Derived.Test.YtldfobciojmlnaaDoorUnqSpec
import Derived.Test.YtldfobciojmlnaaDoorHexRef
namespace Go.Proofs.YtldfobciojmlnaaDoor
open Go.RowKit
namespace Gl

def hexV : Option Nat → Value
  | some n => .tuple #[.int .i32 (n : Int), .bool true]
  | none => .tuple #[.int .i32 0, .bool false]

set_option maxHeartbeats 4000000 in
set_option maxRecDepth 100000 in
theorem hexadecimal_any (s : ByteArray) (w : World) (hs : s.size ≤ 1000000) :
    Calls Tryd.prog 63 #[.string s] w fun e w' => e = .returned (hexV (Gly.hexG 0 s.data.toList)) ∧ Below w.heap.size w w' := by
  go_enter Tryd.func63, Tryd.ntmps63
  go_wp2
  go_loopw [4] (fun v wr => ∃ (pos m : Nat), v = .int .i32 m ∧ wr.heap[w.heap.size]? = some (.stringIter s pos) ∧ Below w.heap.size w wr ∧ Hid (Gly.hexG m (s.data.toList.drop pos) = Gly.hexG 0 s.data.toList) ∧ m ≤ 1114111 ∧ pos ≤ s.size) (fun _ wr => s.size - wr.iterPos w.heap.size)
  case atStart => exact ⟨0, 0, rfl, World.iter_heap w s 0, (Below.refl _ _).alloc (Nat.le_refl _) _, rfl, by omega, by omega⟩
  case round =>
    obtain ⟨pos, m, rfl, hit, hbw, HS, hm, hps⟩ := hrel
    have hpos0 := iterPos_of hit
    by_cases hp : pos < s.size
    · have hnx : ∀ ty, (Instr.next (.pointer (some ⟨w.heap.size, 0, none⟩)) true ty).run Tryd.prog wr = _ := fun ty => Lib.run_next_any_at wr w.heap.size s pos ty hit hp
      have hne := drop_ne hp
      have hwd := width s pos hp
      have hit2 := Lib.iterAt_heap wr w.heap.size s pos (pos + (Utf8.decode s pos).2) hit
      have hbw2 := Lib.below_iterAt hbw (k := w.heap.size) (Nat.le_refl _) s (pos + (Utf8.decode s pos).2)
      have hmx := Gly.dec_max _ hne
      rw [← Gly.dec_at] at hmx
      have hc := HS.out
      rw [Gly.hexG_step hne, drop_next, ← Gly.dec_at] at hc
      obtain ⟨W1, hW1⟩ : ∃ W1, W1 = wr.iterAt w.heap.size s (pos + (Utf8.decode s pos).2) := ⟨_, rfl⟩
      rw [← hW1] at hnx hit2 hbw2
      clear hW1 hit hbw hne
      generalize (Utf8.decode s pos).1 = r at *
      have hdg := digit_any r hmx
      by_cases hd : 48 ≤ r ∧ r ≤ 57
      · rw [Gly.hv_digit hd] at hc
        rw [show Gly.digitB r = true by simp [Gly.digitB]; omega] at hdg
        simp only at hc
        have HD := Lib.hid hdg
        clear hdg
        by_cases hbig : 1114111 < m * 16 + (r - 48)
        · rw [if_pos hbig] at hc
          have HC := Lib.hid hc
          clear hc HS
          go_wp2_with (go_at_call 29; refine (HD.out _).mono ?_; rintro e w' ⟨rfl, rfl⟩)
          go_ret2
          exact ⟨by rw [← HC.out]; rfl, hbw2⟩
        · rw [if_neg hbig] at hc
          have HC := Lib.hid hc
          clear hc HS
          go_wp2_with (go_at_call 29; refine (HD.out _).mono ?_; rintro e w' ⟨rfl, rfl⟩)
          go_roundw
          case rel => exact ⟨_, m * 16 + (r - 48), by go_num, hit2, hbw2, HC, by omega, by omega⟩
          case measure => rw [iterPos_of hit2, hpos0]; omega
      · rw [show Gly.digitB r = false by simp [Gly.digitB]; omega] at hdg
        have HD := Lib.hid hdg
        clear hdg
        by_cases hl : 97 ≤ r ∧ r ≤ 102
        · rw [Gly.hv_letter hl] at hc
          simp only at hc
          by_cases hbig : 1114111 < m * 16 + (r - 87)
          · rw [if_pos hbig] at hc
            have HC := Lib.hid hc
            clear hc HS
            go_wp2_with (go_at_call 29; refine (HD.out _).mono ?_; rintro e w' ⟨rfl, rfl⟩)
            go_ret2
            exact ⟨by rw [← HC.out]; rfl, hbw2⟩
          · rw [if_neg hbig] at hc
            have HC := Lib.hid hc
            clear hc HS
            go_wp2_with (go_at_call 29; refine (HD.out _).mono ?_; rintro e w' ⟨rfl, rfl⟩)
            go_roundw
            case rel => exact ⟨_, m * 16 + (r - 87), by go_num, hit2, hbw2, HC, by omega, by omega⟩
            case measure => rw [iterPos_of hit2, hpos0]; omega
        · rw [Gly.hv_none hd hl] at hc
          have HC := Lib.hid hc
          clear hc HS
          by_cases h97 : 97 ≤ r
          · go_wp2_with (go_at_call 29; refine (HD.out _).mono ?_; rintro e w' ⟨rfl, rfl⟩)
            go_ret2
            exact ⟨by rw [← HC.out]; rfl, hbw2⟩
          · go_wp2_with (go_at_call 29; refine (HD.out _).mono ?_; rintro e w' ⟨rfl, rfl⟩)
            go_ret2
            exact ⟨by rw [← HC.out]; rfl, hbw2⟩
    · have hnx : ∀ ty, (Instr.next (.pointer (some ⟨w.heap.size, 0, none⟩)) true ty).run Tryd.prog wr = _ := fun ty => Lib.run_next_end_at wr w.heap.size s pos ty hit hp
      have hc := HS.out
      rw [drop_end hp] at hc
      have HC := Lib.hid hc
      clear hc HS
      go_wp2
      go_ret2
      exact ⟨by rw [← HC.out]; rfl, hbw⟩
end Gl
end Go.Proofs.YtldfobciojmlnaaDoor
