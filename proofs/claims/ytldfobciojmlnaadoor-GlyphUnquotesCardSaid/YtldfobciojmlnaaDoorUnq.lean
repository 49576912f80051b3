/-
  Package glyph in this program: Unquote.
-/
import Derived.Test.YtldfobciojmlnaaDoorUnesc
namespace Go.Proofs.YtldfobciojmlnaaDoor
open Go.RowKit
namespace Gly

theorem unesc_len : ∀ (k : Nat) (l t : List UInt8), l.length ≤ k → unesc l = some t → t.length ≤ 4 * l.length
  | 0, l, t, hk, ht => by
    have : l = [] := List.eq_nil_of_length_eq_zero (by omega)
    subst this; rw [unesc_nil] at ht; cases ht; simp
  | k + 1, l, t, hk, ht => by
    by_cases h : l = []
    · subst h; rw [unesc_nil] at ht; cases ht; simp
    · by_cases hr : (dec l).1 = 92
      · cases hx : esc l with
        | none => rw [unesc_none h hr hx] at ht; cases ht
        | some x =>
          obtain ⟨p, n⟩ := x
          obtain ⟨a1, a2, _, a4⟩ := esc_ascii hx
          rw [unesc_esc h hr hx] at ht
          cases hu : unesc (l.drop (n + 1)) with
          | none => rw [hu] at ht; cases ht
          | some u =>
            rw [hu] at ht; cases ht
            have := unesc_len k _ u (by rw [List.length_drop]; omega) hu
            rw [List.length_drop] at this
            rw [List.length_append]; omega
      · rw [unesc_rune h hr] at ht
        have hw := dec_width l h
        have hel := (Lib.runeCells_le ((dec l).1 : Int)).2
        rw [Lib.runeCells_length] at hel
        cases hu : unesc (l.drop (dec l).2) with
        | none => rw [hu] at ht; cases ht
        | some u =>
          rw [hu] at ht; cases ht
          have := unesc_len k _ u (by rw [List.length_drop]; omega) hu
          rw [List.length_drop] at this
          rw [List.length_append]; omega

/-- The inside, if the text begins and ends with a mark (two of them). -/
def inner (l : List UInt8) : Option (List UInt8) :=
  if Lib.hasPrefix l [34] && Lib.hasSuffix (Lib.trimPrefix l [34]) [34] then some (Lib.trimSuffix (Lib.trimPrefix l [34]) [34]) else none
/-- What Unquote answers. -/
def unq (l : List UInt8) : Option (List UInt8) := (inner l).bind fun m => (unesc m).bind fun t => if quote t = l then some t else none
end Gly
namespace Gl

def unqV : Option (List UInt8) → Value
  | some t => .tuple #[.string ⟨t.toArray⟩, .int .i64 0]
  | none => .tuple #[.string ⟨#[]⟩, .int .i64 2]

theorem trimS_le (l p : List UInt8) : (Lib.trimSuffix l p).length ≤ l.length := by
  unfold Lib.trimSuffix; split
  · rw [List.length_take]; omega
  · exact Nat.le_refl _
theorem trimP_le (l p : List UInt8) : (Lib.trimPrefix l p).length ≤ l.length := by
  unfold Lib.trimPrefix; split
  · rw [List.length_drop]; omega
  · exact Nat.le_refl _

theorem size_mk (l : List UInt8) : (⟨l.toArray⟩ : ByteArray).size = l.length := by rw [Lib.size_eq]

set_option maxHeartbeats 4000000 in
set_option maxRecDepth 100000 in
theorem unquote_any (s : ByteArray) (w : World) (hs : s.size ≤ 100000) (hT : Num.Tab w) :
    Calls Tryd.prog 20 #[.string s] w fun e w' => e = .returned (unqV (Gly.unq s.data.toList)) ∧ Below w.heap.size w w' := by
  have hp := fun W => Tryd.strings_CutPrefix s ⟨#[34]⟩ W
  obtain ⟨A, hA⟩ : ∃ A, A = Lib.trimPrefix s.data.toList [34] := ⟨_, rfl⟩
  have hAl : A.length ≤ s.size := by rw [hA, Lib.size_eq]; exact trimP_le _ _
  have hq := fun W => Tryd.strings_CutSuffix ⟨A.toArray⟩ ⟨#[34]⟩ W (by rw [size_mk]; omega)
  rw [show ((⟨#[34]⟩ : ByteArray).data.toList) = [34] from rfl, ← hA] at hp
  rw [show ((⟨#[34]⟩ : ByteArray).data.toList) = [34] from rfl, show ((⟨A.toArray⟩ : ByteArray).data.toList) = A from rfl] at hq
  obtain ⟨B, hB⟩ : ∃ B, B = Lib.trimSuffix A [34] := ⟨_, rfl⟩
  rw [← hB] at hq
  have hBl : B.length ≤ 100000 := by have := trimS_le A [34]; rw [← hB] at this; omega
  have hun := fun W => unescape_any ⟨B.toArray⟩ W (by rw [size_mk]; omega)
  rw [show ((⟨B.toArray⟩ : ByteArray).data.toList) = B from rfl] at hun
  have hE := Eq.refl (Gly.unq s.data.toList)
  conv at hE => rhs; unfold Gly.unq Gly.inner; rw [← hA, ← hB]
  cases hf : Lib.hasPrefix s.data.toList [34] with
  | false =>
    rw [hf, Bool.false_and, if_neg Bool.false_ne_true, Option.bind_none] at hE
    rw [hE]
    rw [hf] at hp
    have HP := Lib.hid hp
    have HQ := Lib.hid hq
    have HU := Lib.hid hun
    clear hp hq hun hE hA hB hf hBl hAl
    generalize Lib.hasSuffix A [34] = bk at HQ
    go_enter Tryd.func20, Tryd.ntmps20
    go_wp2_with (first | (go_at_call 38; refine (HP.out _).mono ?_; rintro e w' ⟨rfl, rfl⟩) | (go_at_call 39; refine (HQ.out _).mono ?_; rintro e w' ⟨rfl, rfl⟩))
    go_ret2
    exact ⟨rfl, Below.refl _ _⟩
  | true =>
    rw [hf, Bool.true_and] at hE
    rw [hf] at hp
    have HP := Lib.hid hp
    cases hk : Lib.hasSuffix A [34] with
    | false =>
      rw [hk, if_neg Bool.false_ne_true, Option.bind_none] at hE
      rw [hE]
      rw [hk] at hq
      have HQ := Lib.hid hq
      clear hp hq hun hE hA hB hf hBl hAl hk
      go_enter Tryd.func20, Tryd.ntmps20
      go_wp2_with (first | (go_at_call 38; refine (HP.out _).mono ?_; rintro e w' ⟨rfl, rfl⟩) | (go_at_call 39; refine (HQ.out _).mono ?_; rintro e w' ⟨rfl, rfl⟩))
      go_ret2
      exact ⟨rfl, Below.refl _ _⟩
    | true =>
      rw [hk, if_pos rfl, Option.bind_some] at hE
      rw [hk] at hq
      have HQ := Lib.hid hq
      cases hu : Gly.unesc B with
      | none =>
        rw [hu, Option.bind_none] at hE
        rw [hE]
        rw [hu] at hun
        have HU := Lib.hid hun
        clear hp hq hun hE hA hB hf hBl hAl hk hu
        go_enter Tryd.func20, Tryd.ntmps20
        go_wp2_with (first | (go_at_call 38; refine (HP.out _).mono ?_; rintro e w' ⟨rfl, rfl⟩) | (go_at_call 39; refine (HQ.out _).mono ?_; rintro e w' ⟨rfl, rfl⟩) | (go_at_call 40; refine (HU.out _).mono ?_; rintro e w2 ⟨rfl, b2⟩; simp only [unescV]))
        go_ret2
        exact ⟨rfl, b2⟩
      | some t =>
        rw [hu, Option.bind_some] at hE
        rw [hu] at hun
        have htl := Gly.unesc_len B.length B t (Nat.le_refl _) hu
        have hqt := fun W h => quote_any ⟨t.toArray⟩ W (by rw [size_mk]; omega) h
        rw [show ((⟨t.toArray⟩ : ByteArray).data.toList) = t from rfl] at hqt
        have HU := Lib.hid hun
        have HQT := Lib.hid hqt
        have HTT := Lib.hid hT
        clear hp hq hun hA hB hf hBl hAl hk hu hqt hT
        by_cases he : Gly.quote t = s.data.toList
        · rw [if_pos he] at hE
          rw [hE]
          have hes : (⟨(Gly.quote t).toArray⟩ : ByteArray) = s := by
            apply ByteArray.ext; apply Array.ext'; rw [he]
          rw [hes] at HQT
          clear hE
          go_enter Tryd.func20, Tryd.ntmps20
          go_wp2_with (first | (go_at_call 38; refine (HP.out _).mono ?_; rintro e w' ⟨rfl, rfl⟩) | (go_at_call 39; refine (HQ.out _).mono ?_; rintro e w' ⟨rfl, rfl⟩) | (go_at_call 40; refine (HU.out _).mono ?_; rintro e w2 ⟨rfl, b2⟩; simp only [unescV]))
          go_wp2_with (go_at_call 19; refine (HQT.out _ (HTT.out.below b2)).mono ?_; rintro e w3 ⟨rfl, b3⟩)
          go_ret2
          exact ⟨rfl, b2.trans (b3.mono b2.size)⟩
        · rw [if_neg he] at hE
          rw [hE]
          have hes : (⟨(Gly.quote t).toArray⟩ : ByteArray) ≠ s := by
            intro h; apply he; rw [← h]
          generalize (⟨(Gly.quote t).toArray⟩ : ByteArray) = Z at HQT hes
          have hzs : (Z.toList == s.toList) = false := by
            rw [ByteArray.toList_eq, ByteArray.toList_eq, beq_eq_false_iff_ne]
            exact fun h => hes (ByteArray.ext (Array.ext' h))
          clear hE
          go_enter Tryd.func20, Tryd.ntmps20
          go_wp2_with (first | (go_at_call 38; refine (HP.out _).mono ?_; rintro e w' ⟨rfl, rfl⟩) | (go_at_call 39; refine (HQ.out _).mono ?_; rintro e w' ⟨rfl, rfl⟩) | (go_at_call 40; refine (HU.out _).mono ?_; rintro e w2 ⟨rfl, b2⟩; simp only [unescV]))
          go_wp2_with (go_at_call 19; refine (HQT.out _ (HTT.out.below b2)).mono ?_; rintro e w3 ⟨rfl, b3⟩)
          go_ret2
          exact ⟨rfl, b2.trans (b3.mono b2.size)⟩
end Gl
end Go.Proofs.YtldfobciojmlnaaDoor
