/-
  The document's Clip; and the statement GlyphClips at every text and number.
-/
import Derived.Test.YtldfobciojmlnaaDoorClip
import Derived.Test.YtldfobciojmlnaaDoorNamesB
namespace Go.Proofs.YtldfobciojmlnaaDoor
open Go.RowKit
namespace Ref

theorem clip_neg (s : ByteArray) (n : Int) (hn : n < 0) (w : World) (hs : s.size ≤ 1000000) :
    Calls Tryd.prog 18 #[.string s, .int .i64 n] w fun e w' => e = .returned (.tuple #[.string ⟨#[]⟩, .int .i64 1]) ∧ Below w.heap.size w w' := by
  have hu := fun w => runes_any s w hs
  cases hr : Gly.runes s.data.toList with
  | none =>
    rw [hr] at hu
    have HU := Lib.hid hu
    clear hu hr
    go_enter Tryd.func18, Tryd.ntmps18
    go_wp2_with (go_at_call 11; refine (HU.out _).mono ?_; rintro e w1 ⟨rfl, b1⟩)
    go_ret2
    exact ⟨rfl, b1⟩
  | some t =>
    rw [hr] at hu
    have HU := Lib.hid hu
    clear hu hr
    go_enter Tryd.func18, Tryd.ntmps18
    go_wp2_with (go_at_call 11; refine (HU.out _).mono ?_; rintro e w1 ⟨v, rfl, hown, b1⟩; obtain ⟨ao, cap, rfl⟩ := owned_any hown)
    go_ret2
    exact ⟨rfl, b1⟩

set_option maxHeartbeats 4000000 in
set_option maxRecDepth 100000 in
theorem clip_any (s : ByteArray) (n : Nat) (hn : n ≤ 9223372036854775807) (w : World) (hs : s.size ≤ 1000000) :
    Calls Tryd.prog 18 #[.string s, .int .i64 n] w fun e w' => e = .returned (Gl.clipV n s.data.toList (Gly.runes s.data.toList)) ∧ Below w.heap.size w w' := by
  have hu := fun w => runes_any s w hs
  cases hr : Gly.runes s.data.toList with
  | none =>
    rw [hr] at hu
    have HU := Lib.hid hu
    clear hu hr
    go_enter Tryd.func18, Tryd.ntmps18
    go_wp2_with (go_at_call 11; refine (HU.out _).mono ?_; rintro e w1 ⟨rfl, b1⟩)
    go_ret2
    exact ⟨rfl, b1⟩
  | some t =>
    have htl := Gly.runes_len _ _ (Nat.le_refl _) t hr
    rw [← Lib.size_eq] at htl
    rw [hr] at hu
    have HU := Lib.hid hu
    have HR := Lib.hid hr
    clear hu hr
    by_cases hnt : t.length ≤ n
    · have hall := Gly.pre_all HR.out hnt
      have hv : Gl.clipV n s.data.toList (some t) = .tuple #[.string s, .int .i64 0] := by
        rw [Gl.clipV, hall, List.take_length, Lib.mk_data]
      have HV := Lib.hid hv
      clear hv hall
      go_enter Tryd.func18, Tryd.ntmps18
      go_wp2_with (go_at_call 11; refine (HU.out _).mono ?_; rintro e w1 ⟨v, rfl, hown, b1⟩; obtain ⟨ao, cap, rfl⟩ := owned_any hown)
      go_ret2
      exact ⟨by rw [HV.out]; rfl, b1⟩
    · go_enter Tryd.func18, Tryd.ntmps18
      go_wp2_with (go_at_call 11; refine (HU.out _).mono ?_; rintro e w1 ⟨v, rfl, hown, b1⟩; obtain ⟨ao, cap, rfl⟩ := owned_any hown)
      go_loop [1, 8] (fun c a => ∃ (j p : Nat), c = .int .i64 ((n : Int) - j) ∧ a = .int .i64 p ∧ j ≤ n ∧ p ≤ s.size ∧ Hid (Gly.pre j s.data.toList = p)) (fun c _ => (intOf c).toNat)
      case atStart => exact ⟨0, 0, by simp, rfl, by omega, by omega, rfl⟩
      case round =>
        obtain ⟨j, p, rfl, rfl, hj, hp, HP⟩ := hrel
        by_cases hlt : j < n
        · have hd := Gly.runes_drop j _ t HR.out
          have htne : t.drop j ≠ [] := by
            intro e
            have := congrArg List.length e
            rw [List.length_drop] at this
            simp at this
            omega
          have hne := Gly.runes_ne hd htne
          have hgood := Gly.runes_good hd hne
          have hback := Gly.pre_back j s.data.toList hne
          rw [HP.out] at hne hgood hback
          have hps : p < s.size := by
            apply Nat.lt_of_not_le
            intro h
            exact hne (Gl.drop_end (by omega))
          have hwd := Gl.width s p hps
          rw [← Gly.dec_at] at hback
          have HB := Lib.hid hback
          have HC := Lib.hid (fun W => rune_good s p hps hs W hgood)
          clear hd htne hne hgood hback
          go_wp2_with (go_at_call 27; refine (HC.out _).mono ?_; rintro e w2 ⟨rfl, rfl⟩)
          go_round
          case rel => exact ⟨j + 1, p + (Utf8.decode s p).2, by simp; omega, by go_num, by omega, by omega, HB⟩
          case measure => simp [intOf]; omega
        · have hjn : j = n := by omega
          subst hjn
          have hz : ((j : Int) - (j : Int)) = 0 := by omega
          have hext : s.extract 0 p = ⟨(s.data.toList.take (Gly.pre j s.data.toList)).toArray⟩ := by rw [HP.out, Gl.extract_take]
          have HX := Lib.hid hext
          clear hext hnt
          go_wp2
          go_ret2
          refine ⟨?_, b1⟩
          simp only [Gl.clipV]
          rw [← HX.out]
          rfl
end Ref
namespace LawClips

set_option maxHeartbeats 2000000 in
set_option maxRecDepth 100000 in
theorem walk (s : ByteArray) (n : Int) (w : World) (hs : s.size ≤ maxLen) (wn : (Lit.int .i64 n).wf = true) (hT : Num.Tab w) :
    Calls Tryd.prog 5 #[.string s, .int .i64 n] w fun e w' => e = .returned (.bool true) ∧ Below w.heap.size w w' := by
  unfold maxLen at hs
  have HA := Lib.hid (fun w hT => Ref.awake_any w hT)
  have HT := Lib.hid hT
  have hn0 : n ≤ 9223372036854775807 := (bounds_i64 wn).2
  clear hT wn
  by_cases hl : s.size ≤ 3000
  · by_cases hneg : n < 0
    · have H1 := Lib.hid (fun w => Gl.clip_neg s n hneg w)
      have H2 := Lib.hid (fun w => Ref.clip_neg s n hneg w (by omega))
      go_enter Tryd.func5, Tryd.ntmps5
      go_wp2_with (go_at_call 9; refine (HA.out _ HT.out).mono ?_; rintro e w1 ⟨rfl, b1⟩)
      go_wp2_with (go_at_call 17; refine (H1.out _).mono ?_; rintro e w2 ⟨rfl, b2⟩)
      replace b2 := b1.trans (b2.mono b1.size)
      go_wp2_with (go_at_call 18; refine (H2.out _).mono ?_; rintro e w3 ⟨rfl, b3⟩)
      replace b3 := b2.trans (b3.mono b2.size)
      go_ret
      exact ⟨rfl, b3⟩
    · obtain ⟨n, rfl⟩ := Int.eq_ofNat_of_zero_le (show 0 ≤ n by omega)
      have h1 := fun w => Gl.clip_any s n (by omega) w (by omega)
      have h2 := fun w => Ref.clip_any s n (by omega) w (by omega)
      cases hr : Gly.runes s.data.toList with
      | none =>
        rw [hr] at h1 h2
        simp only [Gl.clipV] at h1 h2
        have H1 := Lib.hid h1
        have H2 := Lib.hid h2
        clear h1 h2 hr
        go_enter Tryd.func5, Tryd.ntmps5
        go_wp2_with (go_at_call 9; refine (HA.out _ HT.out).mono ?_; rintro e w1 ⟨rfl, b1⟩)
        go_wp2_with (go_at_call 17; refine (H1.out _).mono ?_; rintro e w2 ⟨rfl, b2⟩)
        replace b2 := b1.trans (b2.mono b1.size)
        go_wp2_with (go_at_call 18; refine (H2.out _).mono ?_; rintro e w3 ⟨rfl, b3⟩)
        replace b3 := b2.trans (b3.mono b2.size)
        go_ret
        exact ⟨rfl, b3⟩
      | some t =>
        rw [hr] at h1 h2
        simp only [Gl.clipV] at h1 h2
        have hp := Gly.pre_le n s.data.toList
        have hrt := Gly.runes_take n _ t hr
        have htl := Gly.runes_len _ _ (Nat.le_refl _) t hr
        rw [← Lib.size_eq] at hp htl
        have hx : s.extract 0 (Gly.pre n s.data.toList) = ⟨(s.data.toList.take (Gly.pre n s.data.toList)).toArray⟩ := Gl.extract_take s _
        have hq : ∃ q : ByteArray, q = ⟨(s.data.toList.take (Gly.pre n s.data.toList)).toArray⟩ := ⟨_, rfl⟩
        obtain ⟨q, hq⟩ := hq
        have hqd : q.data.toList = s.data.toList.take (Gly.pre n s.data.toList) := by rw [hq]
        have hqs : q.size = Gly.pre n s.data.toList := by rw [Lib.size_eq, hqd, List.length_take, ← Lib.size_eq]; omega
        rw [← hq] at h1 h2 hx
        rw [← hqs] at hx hp
        have h3 := fun w => Gl.count_any s w (by omega)
        have h4 := fun w => Gl.count_any q w (by omega)
        rw [hqd] at h4
        simp only [Gly.cnt, hr, hrt, Option.map_some, Gl.cntV, Nat.zero_add, List.length_take] at h3 h4
        have H1 := Lib.hid h1
        have H2 := Lib.hid h2
        have H3 := Lib.hid h3
        have H4 := Lib.hid h4
        have HX := Lib.hid hx
        clear h1 h2 h3 h4 hr hq hqd hrt hqs hx
        go_enter Tryd.func5, Tryd.ntmps5
        go_wp2_with (go_at_call 9; refine (HA.out _ HT.out).mono ?_; rintro e w1 ⟨rfl, b1⟩)
        go_wp2_with (go_at_call 17; refine (H1.out _).mono ?_; rintro e w2 ⟨rfl, b2⟩)
        replace b2 := b1.trans (b2.mono b1.size)
        go_wp2_with (go_at_call 18; refine (H2.out _).mono ?_; rintro e w3 ⟨rfl, b3⟩)
        replace b3 := b2.trans (b3.mono b2.size)
        go_wp2_with fail
        refine (H3.out _).mono ?_
        rintro e w4 ⟨rfl, b4⟩
        replace b4 := b3.trans (b4.mono b3.size)
        go_wp2_with fail
        refine (H4.out _).mono ?_
        rintro e w5 ⟨rfl, b5⟩
        replace b5 := b4.trans (b5.mono b4.size)
        go_wp2
        go_ret
        exact ⟨by rw [HX.out]; simp, b5⟩
  · go_enter Tryd.func5, Tryd.ntmps5
    go_wp2_with fail
    refine (HA.out _ HT.out).mono ?_
    rintro e w1 ⟨rfl, b1⟩
    go_wp2_with fail
    refine (HA.out _ (HT.out.below b1)).mono ?_
    rintro e w2 ⟨rfl, b2⟩
    replace b2 := b1.trans (b2.mono b1.size)
    go_wp2
    go_ret
    exact ⟨rfl, b2⟩
end LawClips
end Go.Proofs.YtldfobciojmlnaaDoor
