/-
  Package glyph in this program: Count.
-/
import Derived.Test.YtbphmaoomnocmaaDoorStray
namespace Go.Proofs.YtbphmaoomnocmaaDoor
open Go.RowKit
namespace Gl
/-- What Count answers. -/
def cntV : Option Nat → Value
  | some n => .tuple #[.int .i64 n, .int .i64 0]
  | none => .tuple #[.int .i64 0, .int .i64 4]

set_option maxHeartbeats 2000000 in
set_option maxRecDepth 100000 in
theorem count_any (s : ByteArray) (w : World) (hs : s.size ≤ 4000000) :
    Calls Tryd.prog 60 #[.string s] w fun e w' => e = .returned (cntV (Gly.cnt 0 s.data.toList)) ∧ Below w.heap.size w w' := by
  go_enter Tryd.func60, Tryd.ntmps60
  go_wp2
  go_loopw [4] (fun v wr => ∃ (pos n : Nat), v = .int .i64 n ∧ wr.heap[w.heap.size]? = some (.stringIter s pos) ∧ Below w.heap.size w wr ∧ Hid (Gly.cnt n (s.data.toList.drop pos) = Gly.cnt 0 s.data.toList) ∧ n ≤ pos ∧ pos ≤ s.size) (fun _ wr => s.size - wr.iterPos w.heap.size)
  case atStart => exact ⟨0, 0, rfl, World.iter_heap w s 0, (Below.refl _ _).alloc (Nat.le_refl _) _, rfl, by omega, by omega⟩
  case round =>
    obtain ⟨pos, n, rfl, hit, hbw, HS, hn, hps⟩ := hrel
    have hpos0 := iterPos_of hit
    by_cases hp : pos < s.size
    · have hnx : ∀ ty, (Instr.next (.pointer (some ⟨w.heap.size, 0, none⟩)) true ty).run Tryd.prog wr = _ := fun ty => Lib.run_next_any_at wr w.heap.size s pos ty hit hp
      have hwd := width s pos hp
      have hit2 := Lib.iterAt_heap wr w.heap.size s pos (pos + (Utf8.decode s pos).2) hit
      have hbw2 := Lib.below_iterAt hbw (k := w.heap.size) (Nat.le_refl _) s (pos + (Utf8.decode s pos).2)
      obtain ⟨W1, hW1⟩ : ∃ W1, W1 = wr.iterAt w.heap.size s (pos + (Utf8.decode s pos).2) := ⟨_, rfl⟩
      rw [← hW1] at hnx hit2 hbw2
      clear hW1 hit hbw
      have hst := stray_dec s pos hp
      cases hb : Gly.bad (s.data.toList.drop pos) with
      | true =>
        have hc := HS.out
        rw [Gly.cnt_bad (drop_ne hp) hb] at hc
        rw [hb] at hst
        have HST := Lib.hid hst
        have HC := Lib.hid hc
        clear hst hb hc
        go_wp2_with (go_at_call 83; refine (HST.out _).mono ?_; rintro e w' ⟨rfl, rfl⟩)
        go_ret2
        exact ⟨by rw [← HC.out]; rfl, hbw2⟩
      | false =>
        have hc := HS.out
        rw [Gly.cnt_step (drop_ne hp) hb, drop_next] at hc
        rw [hb] at hst
        have HST := Lib.hid hst
        have HC := Lib.hid hc
        clear hst hb hc
        go_wp2_with (go_at_call 83; refine (HST.out _).mono ?_; rintro e w' ⟨rfl, rfl⟩)
        go_roundw
        case rel => exact ⟨_, n + 1, by go_num, hit2, hbw2, HC, by omega, by omega⟩
        case measure => rw [iterPos_of hit2, hpos0]; omega
    · have hnx : ∀ ty, (Instr.next (.pointer (some ⟨w.heap.size, 0, none⟩)) true ty).run Tryd.prog wr = _ := fun ty => Lib.run_next_end_at wr w.heap.size s pos ty hit hp
      have hc := HS.out
      rw [drop_end hp, Gly.cnt_nil] at hc
      have HC := Lib.hid hc
      clear hc
      go_wp2
      go_ret2
      exact ⟨by rw [← HC.out]; rfl, hbw⟩

end Gl
end Go.Proofs.YtbphmaoomnocmaaDoor
