/-
  GlyphUnquotes, at every text: true. (The row and the card: below.)
-/
import Derived.Test.YtldfobciojmlnaaDoorUnqRefC
import Derived.Test.YtldfobciojmlnaaDoorAwake
namespace Go.Proofs.YtldfobciojmlnaaDoor
open Go.RowKit
namespace Ref

theorem unquote_any (s : ByteArray) (w : World) (hs : s.size ≤ 100000) :
    Calls Tryd.prog 22 #[.string s] w fun e w' => e = .returned (unqRV (Gly.unq s.data.toList)) ∧ Below w.heap.size w w' := by
  rw [← Gly.unq_eq]
  have hsz := Lib.size_eq s
  by_cases h2 : s.size < 2
  · rw [Gly.unqR, Gly.innerR, if_pos (.inl (by omega)), Option.bind_none]
    exact inner_short s w h2
  · have b0 : Gly.byte s.data.toList 0 = (s[0]).toNat := by
      have := byte_at (s := s) (p := 0) (k := 0) (by omega)
      simpa using this
    have b1 : Gly.byte s.data.toList (s.data.toList.length - 1) = (s[s.size - 1]).toNat := by
      have := byte_at (s := s) (p := 0) (k := s.size - 1) (by omega)
      rw [← hsz]
      simpa using this
    by_cases h0 : (s[0]).toNat = 34
    · by_cases h1 : (s[s.size - 1]).toNat = 34
      · have hi : Gly.innerR s.data.toList = some (s.extract 1 (s.size - 1)).data.toList := by
          rw [Gly.innerR, if_neg (by omega), Lib.extract_data, ← hsz]
          congr 2
        have hX : Gly.unqR s.data.toList = (Gly.unescR (s.extract 1 (s.size - 1)).data.toList).bind fun t => if Gly.quote t = s.data.toList then some t else none := by
          rw [Gly.unqR, hi, Option.bind_some]
        refine unquote_in s _ (Gly.unqR s.data.toList) w (by omega) hs h0 h1 rfl ?_ ?_
        · intro h; rw [hX, h, Option.bind_none]
        · intro t h; rw [hX, h, Option.bind_some]
      · rw [Gly.unqR, Gly.innerR, if_pos (.inr (.inr (by omega))), Option.bind_none]
        exact inner_back s w (by omega) hs h0 h1
    · rw [Gly.unqR, Gly.innerR, if_pos (.inr (.inl (by omega))), Option.bind_none]
      exact inner_front s w (by omega) hs h0
end Ref
namespace LawUnquotes

set_option maxHeartbeats 2000000 in
set_option maxRecDepth 100000 in
theorem walk (s : ByteArray) (w : World) (hs : s.size ≤ maxLen) (hT : Num.Tab w) :
    Calls Tryd.prog 7 #[.string s] w fun e w' => e = .returned (.bool true) ∧ Below w.heap.size w w' := by
  unfold maxLen at hs
  have HA := Lib.hid (fun w hT => Ref.awake_any w hT)
  have HT := Lib.hid hT
  clear hT
  by_cases hl : s.size ≤ 1000
  · have hu := fun w h => Gl.unquote_any s w (by omega) h
    have hr := fun w => Ref.unquote_any s w (by omega)
    cases hx : Gly.unq s.data.toList with
    | none =>
      rw [hx] at hu hr
      simp only [Gl.unqV, Ref.unqRV] at hu hr
      have HU := Lib.hid hu
      have HR := Lib.hid hr
      clear hu hr hx
      go_enter Tryd.func7, Tryd.ntmps7
      go_wp2_with (go_at_call 9; refine (HA.out _ HT.out).mono ?_; rintro e w1 ⟨rfl, b1⟩)
      go_wp2_with (go_at_call 20; refine (HU.out _ (HT.out.below b1)).mono ?_; rintro e w2 ⟨rfl, b2⟩)
      replace b2 := b1.trans (b2.mono b1.size)
      go_wp2_with (go_at_call 22; refine (HR.out _).mono ?_; rintro e w3 ⟨rfl, b3⟩)
      replace b3 := b2.trans (b3.mono b2.size)
      go_ret
      exact ⟨rfl, b3⟩
    | some t =>
      rw [hx] at hu hr
      simp only [Gl.unqV, Ref.unqRV] at hu hr
      have hq := Gly.unq_some hx
      have htl : t.length ≤ 100000 := by
        have : (Gly.quote t).length = s.size := by rw [hq, Lib.size_eq]
        have h2 : t.length ≤ 4 * (Gly.qb t).length := Gly.unesc_len (Gly.qb t).length _ t (Nat.le_refl _) (Gly.unesc_qb t.length t (Nat.le_refl _))
        simp only [Gly.quote, List.length_append, List.length_singleton] at this
        omega
      have hqt := fun w h => Gl.quote_any ⟨t.toArray⟩ w (by rw [Lib.size_eq]; simp; omega) h
      rw [show ((⟨t.toArray⟩ : ByteArray).data.toList) = t from rfl, hq] at hqt
      have hsb : (⟨s.data.toList.toArray⟩ : ByteArray) = s := by apply ByteArray.ext; apply Array.ext'; rfl
      rw [hsb] at hqt
      have HU := Lib.hid hu
      have HR := Lib.hid hr
      have HQ := Lib.hid hqt
      clear hu hr hx hq hqt hsb
      go_enter Tryd.func7, Tryd.ntmps7
      go_wp2_with (go_at_call 9; refine (HA.out _ HT.out).mono ?_; rintro e w1 ⟨rfl, b1⟩)
      go_wp2_with (go_at_call 20; refine (HU.out _ (HT.out.below b1)).mono ?_; rintro e w2 ⟨rfl, b2⟩)
      replace b2 := b1.trans (b2.mono b1.size)
      go_wp2_with (go_at_call 22; refine (HR.out _).mono ?_; rintro e w3 ⟨rfl, b3⟩)
      replace b3 := b2.trans (b3.mono b2.size)
      go_wp2_with (go_at_call 19; refine (HQ.out _ (HT.out.below b3)).mono ?_; rintro e w4 ⟨rfl, b4⟩)
      replace b4 := b3.trans (b4.mono b3.size)
      go_ret
      exact ⟨rfl, b4⟩
  · go_enter Tryd.func7, Tryd.ntmps7
    go_wp2_with fail
    refine (HA.out _ HT.out).mono ?_
    rintro e w1 ⟨rfl, b1⟩
    go_wp2_with fail
    refine (HA.out _ (HT.out.below b1)).mono ?_
    rintro e w2 ⟨rfl, b2⟩
    replace b2 := b1.trans (b2.mono b1.size)
    go_wp2
    go_ret
    exact ⟨rfl, b2⟩
end LawUnquotes
end Go.Proofs.YtldfobciojmlnaaDoor
