/-
  The document's answers in this program: Quote.
-/
import Derived.Test.YtldfobciojmlnaaDoorHexRef
namespace Go.Proofs.YtldfobciojmlnaaDoor
open Go.RowKit
namespace Ref

theorem cat_list (a b : List UInt8) : (⟨a.toArray⟩ : ByteArray) ++ ⟨b.toArray⟩ = ⟨(a ++ b).toArray⟩ := by
  apply ByteArray.ext; apply Array.ext'; simp

theorem hex_rune (n : Nat) (w : World) (hn : n < 2147483648) :
    Calls Tryd.prog 41 #[.int .i64 n, .int .i64 1] w fun e w' => e = .returned (.string ⟨(Gly.hex n).toArray⟩) ∧ Below w.heap.size w w' := by
  have h := hex_any n 1 w hn (by omega)
  rw [show ((1 : Nat) : Int) = 1 from rfl, Gly.hxg_one] at h
  exact h
theorem hex_byte (n : Nat) (w : World) (hn : n < 256) (h16 : 16 ≤ n) :
    Calls Tryd.prog 41 #[.int .i64 n, .int .i64 2] w fun e w' => e = .returned (.string ⟨(Gly.hex n).toArray⟩) ∧ Below w.heap.size w w' := by
  have h := hex_any n 2 w (by omega) (by omega)
  rw [show ((2 : Nat) : Int) = 2 from rfl, Gly.hxg_two h16] at h
  exact h

set_option maxHeartbeats 4000000 in
set_option maxRecDepth 100000 in
theorem quote_any (s : ByteArray) (w : World) (hs : s.size ≤ 100000) :
    Calls Tryd.prog 21 #[.string s] w fun e w' => e = .returned (.string ⟨(Gly.quote s.data.toList).toArray⟩) ∧ Below w.heap.size w w' := by
  go_enter Tryd.func21, Tryd.ntmps21
  go_wp2
  go_loopw [3, 4] (fun vo va wr => ∃ (p : Nat) (acc : List UInt8), vo = .string ⟨acc.toArray⟩ ∧ va = .int .i64 p ∧ Below w.heap.size w wr ∧ Hid (acc ++ Gly.qb (s.data.toList.drop p) = [34] ++ Gly.qb s.data.toList) ∧ acc.length ≤ 10 * p + 1 ∧ p ≤ s.size) (fun _ va _ => s.size - (intOf va).toNat)
  case atStart => exact ⟨0, [34], rfl, rfl, Below.refl _ _, rfl, by simp, by omega⟩
  case round =>
    obtain ⟨pos, acc, rfl, rfl, hbw, HS, hal, hps⟩ := hrel
    have hsz := hbw.size
    by_cases hp : pos < s.size
    · have hne := Gl.drop_ne hp
      have hwd := Gl.width s pos hp
      have hmx := Gly.dec_max _ hne
      rw [← Gly.dec_at] at hmx
      have hq := Gly.qb_step hne
      rw [Gl.drop_next] at hq
      have hpl := Gly.piece_len _ hne
      have hq2 : acc ++ (Gly.piece (s.data.toList.drop pos) ++ Gly.qb (s.data.toList.drop (pos + (Utf8.decode s pos).2))) = [34] ++ Gly.qb s.data.toList := by rw [← hq]; exact HS.out
      rw [← List.append_assoc] at hq2
      clear hq
      cases hb : Gly.bad (s.data.toList.drop pos) with
      | true =>
        have hpc : Gly.piece (s.data.toList.drop pos) = [92, 120, 123] ++ Gly.hex (s[pos]).toNat ++ [125] := by
          rw [Gly.piece, if_pos hb]
          have := byte_at0 hp
          rw [this]
        have hbh := Gly.bad_high hne hb
        rw [byte_at0 hp] at hbh
        have hd2 : (Utf8.decode s pos).2 = 1 := by
          rw [Gly.dec_at]
          have : Gly.dec (s.data.toList.drop pos) = (65533, 1) := by simpa [Gly.bad] using hb
          rw [this]
        rw [hpc] at hq2 hpl
        rw [hd2] at hq2
        have hby := (s[pos]).toNat_lt
        have hxl := Gly.hex_len 1 (s[pos]).toNat (by omega)
        have HC := Lib.hid (fun W => rune_bad s pos hp (by omega) W hb)
        have HX := Lib.hid (fun W => hex_byte (s[pos]).toNat W (by omega) (by omega))
        have HQ := Lib.hid hq2
        have HL := Lib.hid hpl
        clear hq2 hpl hb hpc hmx hne HS hd2
        go_wp2_with (go_at_call 27; refine (HC.out _).mono ?_; rintro e w' ⟨rfl, rfl⟩)
        go_wp2_with (go_at_call 41; refine (HX.out _).mono ?_)
        rintro e w2 ⟨rfl, b2⟩
        go_wp2
        go_roundw
        case rel => exact ⟨pos + 1, acc ++ ([92, 120, 123] ++ Gly.hex (s[pos]).toNat ++ [125]), by simp [cat_list], rfl, hbw.trans (b2.mono (by omega)), HQ, by have := HL.out; simp at this ⊢; omega, by omega⟩
        case measure => simp [intOf]; omega
      | false =>
        have HC := Lib.hid (fun W => rune_good s pos hp (by omega) W hb)
        have hw0 : (((Utf8.decode s pos).2 : Int) == 0) = false := by simp; omega
        cases hsw : Gly.shown (Utf8.decode s pos).1 with
        | true =>
          have hpc : Gly.piece (s.data.toList.drop pos) = (s.extract pos (pos + (Utf8.decode s pos).2)).data.toList := by
            rw [Gly.dec_at] at hsw ⊢
            rw [Gly.piece, if_neg (by rw [hb]; exact Bool.false_ne_true), if_pos hsw, Lib.extract_data]
            congr 1; omega
          rw [hpc] at hq2 hpl
          have hxs : (s.extract pos (pos + (Utf8.decode s pos).2)).size ≤ 10 := by rw [Lib.size_eq]; exact hpl
          have hcat : (⟨acc.toArray⟩ : ByteArray) ++ s.extract pos (pos + (Utf8.decode s pos).2) = ⟨(acc ++ (s.extract pos (pos + (Utf8.decode s pos).2)).data.toList).toArray⟩ := by
            apply ByteArray.ext; apply Array.ext'; simp
          have hr : 32 ≤ (Utf8.decode s pos).1 ∧ (Utf8.decode s pos).1 ≠ 34 ∧ (Utf8.decode s pos).1 ≠ 92 ∧ ((Utf8.decode s pos).1 < 127 ∨ 160 < (Utf8.decode s pos).1) := by
            rw [← Gly.shown_ref] at hsw; simpa using hsw
          obtain ⟨r1, r2, r3, r4⟩ := hr
          have hsl : ∀ W, (Instr.slice 9 (.string s) (some (.int .i64 (pos : Int))) (some (.int .i64 ((pos : Int) + ((Utf8.decode s pos).2 : Int)))) none).run Tryd.prog W = .ok (.string (s.extract pos (pos + (Utf8.decode s pos).2))) W := fun W => by
            have e1 : ((pos : Int) + ((Utf8.decode s pos).2 : Int)).toNat = pos + (Utf8.decode s pos).2 := by omega
            rw [run_slice_string W 9 s .i64 .i64 _ _ Tryd.underlying9 (by omega) (by omega) (by omega), e1, Int.toNat_natCast]
          have e2 : (((Utf8.decode s pos).1 : Int) != 34) = true := by simp; omega
          have e3 : (((Utf8.decode s pos).1 : Int) != 92) = true := by simp; omega
          have HQ := Lib.hid hq2
          have HL := Lib.hid hpl
          have HCT := Lib.hid hcat
          clear hq2 hpl hb hpc hmx hne HS hsw hcat
          by_cases r5 : (Utf8.decode s pos).1 < 127
          · go_wp2_with (go_at_call 27; refine (HC.out _).mono ?_; rintro e w' ⟨rfl, rfl⟩)
            go_roundw
            case rel => exact ⟨_, _, congrArg Value.string HCT.out, by go_num, hbw, HQ, by have := HL.out; simp at this ⊢; omega, by omega⟩
            case measure => simp [intOf]; omega
          · go_wp2_with (go_at_call 27; refine (HC.out _).mono ?_; rintro e w' ⟨rfl, rfl⟩)
            go_roundw
            case rel => exact ⟨_, _, congrArg Value.string HCT.out, by go_num, hbw, HQ, by have := HL.out; simp at this ⊢; omega, by omega⟩
            case measure => simp [intOf]; omega
        | false =>
          have hpc : Gly.piece (s.data.toList.drop pos) = [92, 117, 123] ++ Gly.hex (Utf8.decode s pos).1 ++ [125] := by
            rw [Gly.dec_at] at hsw ⊢
            rw [Gly.piece, if_neg (by rw [hb]; exact Bool.false_ne_true), if_neg (by rw [hsw]; exact Bool.false_ne_true)]
          rw [hpc] at hq2 hpl
          have hxl := Gly.hex_len 5 (Utf8.decode s pos).1 (by omega)
          have HX := Lib.hid (fun W => hex_rune (Utf8.decode s pos).1 W (by omega))
          have hr : ¬ (32 ≤ (Utf8.decode s pos).1 ∧ (Utf8.decode s pos).1 ≠ 34 ∧ (Utf8.decode s pos).1 ≠ 92 ∧ ((Utf8.decode s pos).1 < 127 ∨ 160 < (Utf8.decode s pos).1)) := by
            rw [← Gly.shown_ref] at hsw; simpa using hsw
          have HQ := Lib.hid hq2
          have HL := Lib.hid hpl
          clear hq2 hpl hb hpc hmx hne HS hsw
          have hr4 : (Utf8.decode s pos).1 < 32 ∨ (Utf8.decode s pos).1 = 34 ∨ (Utf8.decode s pos).1 = 92 ∨ (127 ≤ (Utf8.decode s pos).1 ∧ (Utf8.decode s pos).1 ≤ 160) := by omega
          clear hr
          generalize (Utf8.decode s pos).1 = r at *
          rcases hr4 with r1 | r1 | r1 | r1
          all_goals
            try subst r1
            try have e2 : ((r : Int) != 34) = true := by simp; omega
            try have e3 : ((r : Int) != 92) = true := by simp; omega
            go_wp2_with (go_at_call 27; refine (HC.out _).mono ?_; rintro e w' ⟨rfl, rfl⟩)
            go_wp2_with (go_at_call 41; refine (HX.out _).mono ?_)
            rintro e w2 ⟨rfl, b2⟩
            go_wp2
            go_roundw
            case rel => exact ⟨_, acc ++ ([92, 117, 123] ++ Gly.hex _ ++ [125]), by simp [cat_list], by go_num, hbw.trans (b2.mono (by omega)), HQ, by have := HL.out; simp at this ⊢; omega, by omega⟩
            case measure => simp [intOf]; omega
    · have hc := HS.out
      rw [Gl.drop_end hp, Gly.qb_nil, List.append_nil] at hc
      have HC := Lib.hid hc
      clear hc HS
      go_wp2
      go_ret
      refine ⟨?_, hbw⟩
      rw [HC.out]
      simp [cat_list, Gly.quote]
end Ref
end Go.Proofs.YtldfobciojmlnaaDoor
