/-
  Clip: what glyph.Clip and the document's Clip answer.
-/
import Derived.Test.YtldfobciojmlnaaDoorAwake
import Derived.Test.YtldfobciojmlnaaDoorClipPure
namespace Go.Proofs.YtldfobciojmlnaaDoor
open Go.RowKit
namespace Gl

/-- What Clip answers of a text: the first n runes, or what is wrong. -/
def clipV (n : Nat) (l : List UInt8) : Option (List Nat) → Value
  | some _ => .tuple #[.string ⟨(l.take (Gly.pre n l)).toArray⟩, .int .i64 0]
  | none => .tuple #[.string ⟨#[]⟩, .int .i64 4]

theorem clone_any (s : ByteArray) (w : World) (hs : s.size ≤ 1000000) :
    Calls Tryd.prog 32 #[.string s] w fun e w' => e = .returned (.string s) ∧ Below w.heap.size w w' := by
  go_enter Tryd.func32, Tryd.ntmps32
  go_wp2_with (go_at_call 47; refine (Tryd.stringslite_Clone s _ (by omega)).mono ?_; rintro e w1 ⟨rfl, b1⟩)
  go_ret
  exact ⟨rfl, b1⟩

theorem clip_neg (s : ByteArray) (n : Int) (hn : n < 0) (w : World) :
    Calls Tryd.prog 17 #[.string s, .int .i64 n] w fun e w' => e = .returned (.tuple #[.string ⟨#[]⟩, .int .i64 1]) ∧ Below w.heap.size w w' := by
  go_enter Tryd.func17, Tryd.ntmps17
  go_wp2
  go_ret2
  exact ⟨rfl, Below.refl _ _⟩

theorem extract_take (s : ByteArray) (m : Nat) : s.extract 0 m = ⟨(s.data.toList.take m).toArray⟩ := by
  rw [Lib.extract_eq]; simp

set_option maxHeartbeats 4000000 in
set_option maxRecDepth 100000 in
theorem clip_any (s : ByteArray) (n : Nat) (hn : n ≤ 9223372036854775807) (w : World) (hs : s.size ≤ 1000000) :
    Calls Tryd.prog 17 #[.string s, .int .i64 n] w fun e w' => e = .returned (clipV n s.data.toList (Gly.runes s.data.toList)) ∧ Below w.heap.size w w' := by
  go_enter Tryd.func17, Tryd.ntmps17
  go_wp2
  go_loopw [6, 7] (fun v c wr => ∃ (pos k m : Nat), c = .int .i64 k ∧ v = .int .i64 m ∧ wr.heap[w.heap.size]? = some (.stringIter s pos) ∧ Below w.heap.size w wr ∧ Hid (Gly.pre k s.data.toList = pos) ∧ Hid ((Gly.runes (s.data.toList.drop pos)).isSome = (Gly.runes s.data.toList).isSome) ∧ Hid (k ≤ n → m = s.size) ∧ Hid (n < k → m = Gly.pre n s.data.toList) ∧ k ≤ pos ∧ pos ≤ s.size ∧ m ≤ s.size) (fun _ _ wr => s.size - wr.iterPos w.heap.size)
  case atStart => exact ⟨0, 0, s.size, rfl, rfl, World.iter_heap w s 0, (Below.refl _ _).alloc (Nat.le_refl _) _, rfl, rfl, Lib.hid (fun _ => rfl), Lib.hid (fun h => by omega), by omega, by omega, by omega⟩
  case round =>
    obtain ⟨pos, k, m, rfl, rfl, hit, hbw, HP, HS, HE, HF, hk, hps, hms⟩ := hrel
    have hpos0 := iterPos_of hit
    by_cases hp : pos < s.size
    · have hnx : ∀ ty, (Instr.next (.pointer (some ⟨w.heap.size, 0, none⟩)) true ty).run Tryd.prog wr = _ := fun ty => Lib.run_next_any_at wr w.heap.size s pos ty hit hp
      have hne := drop_ne hp
      have hwd := width s pos hp
      have hit2 := Lib.iterAt_heap wr w.heap.size s pos (pos + (Utf8.decode s pos).2) hit
      have hbw2 := Lib.below_iterAt hbw (k := w.heap.size) (Nat.le_refl _) s (pos + (Utf8.decode s pos).2)
      have hst := stray_dec s pos hp hs
      obtain ⟨W1, hW1⟩ : ∃ W1, W1 = wr.iterAt w.heap.size s (pos + (Utf8.decode s pos).2) := ⟨_, rfl⟩
      rw [← hW1] at hnx hit2 hbw2
      clear hW1 hit hbw
      cases hb : Gly.bad (s.data.toList.drop pos) with
      | true =>
        have hc := HS.out
        rw [Gly.runes_bad hne hb] at hc
        have hr : Gly.runes s.data.toList = none := by
          cases h : Gly.runes s.data.toList with
          | none => rfl
          | some t => rw [h] at hc; cases hc
        rw [hb] at hst
        have HST := Lib.hid hst
        have HR := Lib.hid hr
        clear hst hb hc hr hne
        go_wp2_with (go_at_call 26; refine (HST.out _).mono ?_; rintro e w' ⟨rfl, rfl⟩)
        go_ret2
        exact ⟨by rw [HR.out]; rfl, hbw2⟩
      | false =>
        have hc := HS.out
        rw [Gly.runes_step hne hb, drop_next, Option.isSome_map] at hc
        have hpp := Gly.pre_back k s.data.toList (by rw [HP.out]; exact hne)
        rw [HP.out, ← Gly.dec_at] at hpp
        rw [hb] at hst
        have HST := Lib.hid hst
        have HC := Lib.hid hc
        have HPP := Lib.hid hpp
        clear hst hb hc hpp hne
        by_cases hkn : k = n
        · subst hkn
          go_wp2_with (go_at_call 26; refine (HST.out _).mono ?_; rintro e w' ⟨rfl, rfl⟩)
          go_roundw
          case rel => exact ⟨_, k + 1, pos, by go_num, rfl, hit2, hbw2, HPP, HC, Lib.hid (fun h => by omega), Lib.hid (fun _ => HP.out.symm), by omega, by omega, by omega⟩
          case measure => rw [iterPos_of hit2, hpos0]; omega
        · have hq : ((k : Int) == (n : Int)) = false := by simp; omega
          go_wp2_with (go_at_call 26; refine (HST.out _).mono ?_; rintro e w' ⟨rfl, rfl⟩)
          go_roundw
          case rel => exact ⟨_, k + 1, m, by go_num, rfl, hit2, hbw2, HPP, HC, Lib.hid (fun h => HE.out (by omega)), Lib.hid (fun h => HF.out (by omega)), by omega, by omega, by omega⟩
          case measure => rw [iterPos_of hit2, hpos0]; omega
    · have hnx : ∀ ty, (Instr.next (.pointer (some ⟨w.heap.size, 0, none⟩)) true ty).run Tryd.prog wr = _ := fun ty => Lib.run_next_end_at wr w.heap.size s pos ty hit hp
      have hc := HS.out
      rw [drop_end hp, Gly.runes_nil] at hc
      have hm : m = Gly.pre n s.data.toList := by
        by_cases hkn : k ≤ n
        · rw [HE.out hkn, Lib.size_eq]
          exact (Gly.pre_full (k := k) (by rw [HP.out]; exact drop_end hp) n hkn).symm
        · exact HF.out (by omega)
      have hsz := hbw.size
      have HC := Lib.hid hc
      have HM := Lib.hid hm
      clear hc hm
      go_wp2_with (go_at_call 32; refine (clone_any _ _ ?_).mono ?_)
      · rw [Lib.size_eq, Lib.extract_data]; simp; omega
      rintro e w1 ⟨rfl, b1⟩
      go_wp2
      go_ret2
      refine ⟨?_, hbw.trans (b1.mono hsz)⟩
      have hc := HC.out
      cases h : Gly.runes s.data.toList with
      | none => rw [h] at hc; cases hc
      | some t =>
        rw [extract_take, HM.out]
        rfl
end Gl
end Go.Proofs.YtldfobciojmlnaaDoor
