/-
  Package glyph in this program: plain, and Id.
-/
import Derived.Test.YtoeaapomjjclaaaDoorStray
import Derived.Test.YtoeaapomjjclaaaDoorIdx
namespace Go.Proofs.YtoeaapomjjclaaaDoor
open Go.RowKit
namespace Gl

theorem res_decode : ∀ p, p < 10 → (Utf8.decode res p).1 < 128 ∧ (Utf8.decode res p).2 = 1 := by decide +kernel
theorem res_size : res.size = 10 := rfl

set_option maxHeartbeats 2000000 in
set_option maxRecDepth 1000000 in
theorem indexRune_fffd (w : World) :
    Calls Tryd.prog 75 #[.string res, .int .i32 65533] w fun e w' => e = .returned (.int .i64 (-1)) ∧ Below w.heap.size w w' := by
  go_enter Tryd.func75, Tryd.ntmps75
  go_wp2_with fail
  go_loopw [] (fun wr => ∃ pos : Nat, wr.heap[w.heap.size]? = some (.stringIter res pos) ∧ Below w.heap.size w wr ∧ pos ≤ 10) (fun wr => 10 - wr.iterPos w.heap.size)
  case atStart => exact ⟨0, World.iter_heap w res 0, (Below.refl _ _).alloc (Nat.le_refl _) _, by omega⟩
  case round =>
    obtain ⟨pos, hit, hbw, hps⟩ := hrel
    have hpos0 := iterPos_of hit
    by_cases hp : pos < 10
    · have hnx : ∀ ty, (Instr.next (.pointer (some ⟨w.heap.size, 0, none⟩)) true ty).run Tryd.prog wr = _ := fun ty => Lib.run_next_any_at wr w.heap.size res pos ty hit (by rw [res_size]; exact hp)
      have hd := res_decode pos hp
      obtain ⟨hd1, hd2⟩ := hd
      have hit2 := Lib.iterAt_heap wr w.heap.size res pos (pos + (Utf8.decode res pos).2) hit
      have hbw2 := Lib.below_iterAt hbw (k := w.heap.size) (Nat.le_refl _) res (pos + (Utf8.decode res pos).2)
      generalize hr : (Utf8.decode res pos).1 = r at *
      rw [hd2] at hnx hit2 hbw2
      obtain ⟨W1, hW1⟩ : ∃ W1, W1 = wr.iterAt w.heap.size res (pos + 1) := ⟨_, rfl⟩
      rw [← hW1] at hnx hit2 hbw2
      have hne : ((r : Int) == 65533) = false := by simp; omega
      clear hW1 hit hbw hr hd2
      go_wp2
      go_roundw
      case rel => exact ⟨_, hit2, hbw2, by omega⟩
      case measure => rw [iterPos_of hit2, hpos0]; omega
    · have hnx : ∀ ty, (Instr.next (.pointer (some ⟨w.heap.size, 0, none⟩)) true ty).run Tryd.prog wr = _ := fun ty => Lib.run_next_end_at wr w.heap.size res pos ty hit (by rw [res_size]; exact hp)
      go_wp2
      go_ret
      exact ⟨rfl, hbw⟩

theorem containsRune_far (r : Nat) (h0 : 128 ≤ r) (h1 : r ≤ 1114111) (h2 : r < 55296 ∨ 57344 ≤ r) (w : World) :
    Calls Tryd.prog 68 #[.string res, .int .i32 r] w fun e w' => e = .returned (.bool false) ∧ Below w.heap.size w w' := by
  have h : Calls Tryd.prog 75 #[.string res, .int .i32 r] w fun e w' => e = .returned (.int .i64 (-1)) ∧ Below w.heap.size w w' := by
    by_cases h3 : r = 65533
    · subst h3; exact indexRune_fffd w
    · refine (indexRune_far r h0 h1 h2 h3 w).mono ?_
      rintro e w' ⟨rfl, n, rfl⟩
      exact ⟨rfl, below_drewN (Below.refl _ _) n⟩
  have H := Lib.hid h
  clear h h2
  go_enter Tryd.func68, Tryd.ntmps68
  go_wp2_with (go_at_call 75; refine H.out.mono ?_; rintro e w' ⟨rfl, hb⟩)
  go_ret
  exact ⟨rfl, hb⟩

theorem plain_ascii : ∀ r, r < 127 → 33 ≤ r → (decide (0 ≤ Lib.indexByte res.data.toList r.toUInt8)) = !Gly.plainB r := by decide +kernel

set_option maxHeartbeats 1000000 in
theorem plain_any (r : Nat) (h1 : r ≤ 1114111) (h2 : r < 55296 ∨ 57344 ≤ r) (w : World) :
    Calls Tryd.prog 62 #[.int .i32 r] w fun e w' => e = .returned (.bool (Gly.plainB r)) ∧ Below w.heap.size w w' := by
  by_cases c1 : r < 33
  · have d : Gly.plainB r = false := by simp [Gly.plainB]; omega
    rw [d]
    clear d h2
    go_enter Tryd.func62, Tryd.ntmps62
    go_wp2
    go_ret
    exact ⟨rfl, Below.refl _ _⟩
  · by_cases c2 : r < 127
    · have h := flip (Tryd.strings_ContainsRune_ascii res (r : Int) w (by omega) (by omega))
      rw [show ((r : Int)).toNat = r by omega, plain_ascii r c2 (by omega)] at h
      have H := Lib.hid h
      clear h h2
      cases hp : Gly.plainB r with
      | true =>
        have H' := H.out
        rw [hp] at H'
        have HH := Lib.hid H'
        clear H' H hp
        go_enter Tryd.func62, Tryd.ntmps62
        go_wp2_with (go_at_call 68; refine HH.out.mono ?_; rintro e w' ⟨rfl, rfl⟩)
        go_ret
        exact ⟨rfl, Below.refl _ _⟩
      | false =>
        have H' := H.out
        rw [hp] at H'
        have HH := Lib.hid H'
        clear H' H hp
        go_enter Tryd.func62, Tryd.ntmps62
        go_wp2_with (go_at_call 68; refine HH.out.mono ?_; rintro e w' ⟨rfl, rfl⟩)
        go_ret
        exact ⟨rfl, Below.refl _ _⟩
    · by_cases c3 : r ≤ 160
      · have d : Gly.plainB r = false := by simp [Gly.plainB]; omega
        rw [d]
        clear d h2
        go_enter Tryd.func62, Tryd.ntmps62
        go_wp2
        go_ret
        exact ⟨rfl, Below.refl _ _⟩
      · have d : Gly.plainB r = true := by simp [Gly.plainB]; omega
        rw [d]
        have H := Lib.hid (containsRune_far r (by omega) h1 h2 w)
        clear d h2
        go_enter Tryd.func62, Tryd.ntmps62
        go_wp2_with (go_at_call 68; refine H.out.mono ?_; rintro e w' ⟨rfl, hb⟩)
        go_ret
        exact ⟨rfl, hb⟩

set_option maxHeartbeats 2000000 in
set_option maxRecDepth 100000 in
theorem id_free (s : ByteArray) (w : World) :
    Calls Tryd.prog 57 #[.string s] w fun e w' => e = .returned (.bool (Gly.idB s.data.toList)) ∧ Below w.heap.size w w' := by
  go_enter Tryd.func57, Tryd.ntmps57
  go_wp2
  go_loopw [3] (fun v wr => ∃ (pos n : Nat), v = .int .i64 n ∧ wr.heap[w.heap.size]? = some (.stringIter s pos) ∧ Below w.heap.size w wr ∧ Hid (Gly.idFrom n (s.data.toList.drop pos) = Gly.idB s.data.toList) ∧ n ≤ 24 ∧ pos ≤ s.size) (fun _ wr => s.size - wr.iterPos w.heap.size)
  case atStart => exact ⟨0, 0, rfl, World.iter_heap w s 0, (Below.refl _ _).alloc (Nat.le_refl _) _, rfl, by omega, by omega⟩
  case round =>
    obtain ⟨pos, n, rfl, hit, hbw, HS, hn, hps⟩ := hrel
    have hpos0 := iterPos_of hit
    by_cases hp : pos < s.size
    · have hnx : ∀ ty, (Instr.next (.pointer (some ⟨w.heap.size, 0, none⟩)) true ty).run Tryd.prog wr = _ := fun ty => Lib.run_next_any_at wr w.heap.size s pos ty hit hp
      have hne := drop_ne hp
      have hwd := width s pos hp
      have hit2 := Lib.iterAt_heap wr w.heap.size s pos (pos + (Utf8.decode s pos).2) hit
      have hbw2 := Lib.below_iterAt hbw (k := w.heap.size) (Nat.le_refl _) s (pos + (Utf8.decode s pos).2)
      have hst := stray_dec s pos hp
      have hru := Gly.dec_rune _ hne
      have hmx := Gly.dec_max _ hne
      have hpl := plain_any (Utf8.decode s pos).1 (by rw [Gly.dec_at]; exact hmx) (by rw [Gly.dec_at]; omega)
      have hid := Gly.idFrom_step n hne
      rw [drop_next, ← Gly.dec_at] at hid
      rw [HS.out] at hid
      obtain ⟨W1, hW1⟩ : ∃ W1, W1 = wr.iterAt w.heap.size s (pos + (Utf8.decode s pos).2) := ⟨_, rfl⟩
      rw [← hW1] at hnx hit2 hbw2
      have hlt := lt_of_block hit2
      clear hW1 hit hbw hru hmx
      by_cases h24 : 24 < n + 1
      · rw [if_pos h24] at hid
        have HI := Lib.hid hid
        clear hid hst hpl
        go_wp2
        go_ret
        exact ⟨by rw [HI.out]; rfl, hbw2⟩
      · rw [if_neg h24] at hid
        cases hp1 : Gly.plainB (Utf8.decode s pos).1 with
        | false =>
          rw [hp1] at hid hpl
          simp only [Bool.false_and, Bool.false_eq_true, if_false] at hid
          have HI := Lib.hid hid
          have HP := Lib.hid hpl
          clear hid hst hpl hp1
          go_wp2_with (go_at_call 62; refine (HP.out _).mono ?_; rintro e w' ⟨rfl, hb⟩)
          go_ret
          exact ⟨by rw [HI.out]; rfl, hbw2.trans (hb.mono (by omega))⟩
        | true =>
          rw [hp1] at hid hpl
          cases hp2 : Gly.bad (s.data.toList.drop pos) with
          | true =>
            rw [hp2] at hid hst
            simp only [Bool.true_and, Bool.not_true, Bool.false_eq_true, if_false] at hid
            have HI := Lib.hid hid
            have HP := Lib.hid hpl
            have HT := Lib.hid hst
            clear hid hst hpl hp1 hp2
            go_wp2_with (go_at_call 62; refine (HP.out _).mono ?_; rintro e w' ⟨rfl, hb⟩)
            go_wp2_with (go_at_call 63; refine (HT.out _).mono ?_; rintro e w'' ⟨rfl, rfl⟩)
            go_ret
            exact ⟨by rw [HI.out]; rfl, hbw2.trans (hb.mono (by omega))⟩
          | false =>
            rw [hp2] at hid hst
            simp only [Bool.true_and, Bool.not_false, if_true] at hid
            have HI := Lib.hid hid.symm
            have HP := Lib.hid hpl
            have HT := Lib.hid hst
            clear hid hst hpl hp1 hp2
            go_wp2_with (go_at_call 62; refine (HP.out _).mono ?_; rintro e w' ⟨rfl, hb⟩)
            have hit3 := (hb.block _ hlt).trans hit2
            have hbw3 := hbw2.trans (hb.mono (Nat.le_of_lt hlt))
            clear hb hit2 hbw2 hlt
            go_wp2_with (go_at_call 63; refine (HT.out _).mono ?_; rintro e w'' ⟨rfl, rfl⟩)
            go_roundw
            case rel => exact ⟨_, n + 1, by go_num, hit3, hbw3, HI, by omega, by omega⟩
            case measure => rw [iterPos_of hit3, hpos0]; omega
    · have hnx : ∀ ty, (Instr.next (.pointer (some ⟨w.heap.size, 0, none⟩)) true ty).run Tryd.prog wr = _ := fun ty => Lib.run_next_end_at wr w.heap.size s pos ty hit hp
      have hc := HS.out
      rw [drop_end hp, Gly.idFrom_nil] at hc
      have HC := Lib.hid hc
      clear hc
      go_wp2
      go_ret
      exact ⟨by rw [← HC.out]; simp, hbw⟩
theorem id_any (s : ByteArray) (w : World) (_hs : s.size ≤ 4000000) :
    Calls Tryd.prog 57 #[.string s] w fun e w' => e = .returned (.bool (Gly.idB s.data.toList)) ∧ Below w.heap.size w w' := id_free s w
end Gl
end Go.Proofs.YtoeaapomjjclaaaDoor
