/-
  Plain mathematics: a quote is read as the text that it quotes; a quote is UTF-8.
-/
import Derived.Test.YtldfobciojmlnaaDoorUnq
namespace Go.Proofs.YtldfobciojmlnaaDoor.Gly
open Go

theorem hexG_append : ∀ (a b : List UInt8) (m : Nat), hexG m (a ++ b) = (hexG m a).bind fun k => hexG k b
  | [], b, m => rfl
  | c :: a, b, m => by
    rw [List.cons_append, hexG, hexG]
    cases hv c.toNat with
    | none => rfl
    | some d =>
      simp only
      split
      · rfl
      · exact hexG_append a b _

theorem hv_hexDigit : ∀ d, d < 16 → hv (hexDigit d).toNat = some d := by decide

theorem hexG_hex : ∀ (k n : Nat), n ≤ k → n ≤ 1114111 → hexG 0 (hex n) = some n
  | 0, n, hk, hn => by
    have : n = 0 := by omega
    subst this; rw [hex_small (by omega), hexG, hv_hexDigit 0 (by omega)]; rfl
  | k + 1, n, hk, hn => by
    by_cases h : n < 16
    · rw [hex_small h, hexG, hv_hexDigit n h]
      simp only [Nat.zero_mul, Nat.zero_add]
      rw [if_neg (by omega)]; rfl
    · rw [hex_step h, hexG_append, hexG_hex k (n / 16) (by omega) (by omega), Option.bind_some, hexG, hv_hexDigit _ (by omega)]
      simp only
      rw [if_neg (by omega), hexG]
      congr 1; omega

theorem hex_low {n : Nat} (hn : n ≤ 1114111) : ∀ b ∈ hex n, b.toNat < 123 := hexG_ascii _ _ _ (hexG_hex n n (Nat.le_refl _) hn)

theorem indexByte_end : ∀ (x r : List UInt8), (∀ b ∈ x, b.toNat < 124) → Lib.indexByte (x ++ 125 :: r) 125 = x.length
  | [], r, _ => by simp [Lib.indexByte]
  | a :: x, r, h => by
    have h1 := h a (by simp)
    have e : (a == 125) = false := by
      rw [beq_eq_false_iff_ne]; intro h; subst h; exact absurd h1 (by decide)
    have ih := indexByte_end x r (fun b hb => h b (by simp [hb]))
    rw [List.cons_append, Lib.indexByte, e, ih]
    simp

theorem dec_slash (t : List UInt8) : dec (92 :: t) = (92, 1) := dec_low (by simp) (by simp [byte])

theorem esc_end (q : UInt8) (hq : q.toNat < 124) {n : Nat} (hn : n ≤ 1114111) (r : List UInt8) :
    Lib.indexByte ([92, q, 123] ++ hex n ++ [125] ++ r) 125 = ((3 + (hex n).length : Nat) : Int) := by
  have := indexByte_end ([92, q, 123] ++ hex n) r (by
    intro b hb
    rcases List.mem_append.1 hb with hb | hb
    · simp at hb
      rcases hb with rfl | rfl | rfl
      · decide
      · exact hq
      · decide
    · have := hex_low hn b hb; omega)
  rw [List.append_assoc, List.singleton_append, this]
  simp
  omega

theorem esc_mid (q : UInt8) (n : Nat) (r : List UInt8) : (([92, q, 123] ++ hex n ++ [125] ++ r).drop 3).take (3 + (hex n).length - 3) = hex n := by
  simp [Nat.add_sub_cancel_left]

theorem esc_u {n : Nat} (hn : n ≤ 1114111) (r : List UInt8) : esc ([92, 117, 123] ++ hex n ++ [125] ++ r) = some (Lib.encodeRune n, 3 + (hex n).length) := by
  unfold esc
  rw [esc_end 117 (by decide) hn, if_neg (by omega), Int.toNat_natCast, esc_mid, hexG_hex n n (Nat.le_refl _) hn]
  simp only
  rw [if_pos (by simp [Lib.hasPrefix, List.isPrefixOf])]

theorem esc_x {n : Nat} (hn : n ≤ 255) (r : List UInt8) : esc ([92, 120, 123] ++ hex n ++ [125] ++ r) = some ([n.toUInt8], 3 + (hex n).length) := by
  unfold esc
  rw [esc_end 120 (by decide) (by omega), if_neg (by omega), Int.toNat_natCast, esc_mid, hexG_hex n n (Nat.le_refl _) (by omega)]
  simp only
  rw [if_neg (by simp [Lib.hasPrefix, List.isPrefixOf]), if_pos (by simp [Lib.hasPrefix, List.isPrefixOf, hn])]

theorem drop_piece (q : UInt8) (n : Nat) (r : List UInt8) : ([92, q, 123] ++ hex n ++ [125] ++ r).drop (3 + (hex n).length + 1) = r := by
  have : ([92, q, 123] ++ hex n ++ [125]).length = 3 + (hex n).length + 1 := by simp; omega
  rw [← this, List.drop_left]

theorem take_same {l : List UInt8} (h : l ≠ []) (hb : bad l = false) (r : List UInt8) : dec (l.take (dec l).2 ++ r) = dec l := by
  have hw := dec_width l h
  refine dec_same h hb (by rw [List.length_append, List.length_take]; omega) fun j hj => ?_
  unfold byte
  congr 1
  simp only [List.getD_eq_getElem?_getD]
  rw [List.getElem?_append_left (by rw [List.length_take]; omega), List.getElem?_take, if_pos hj]

theorem drop_take_append {l r : List UInt8} {n : Nat} (h : n ≤ l.length) : (l.take n ++ r).drop n = r := by
  rw [List.drop_append, List.drop_eq_nil_of_le (by rw [List.length_take]; omega), List.nil_append, List.length_take, Nat.min_eq_left h, Nat.sub_self, List.drop_zero]

/-- What a quote's inside says. -/
theorem unesc_qb : ∀ (k : Nat) (l : List UInt8), l.length ≤ k → unesc (qb l) = some l
  | 0, l, hk => by
    have : l = [] := List.eq_nil_of_length_eq_zero (by omega)
    subst this; rw [qb_nil, unesc_nil]
  | k + 1, l, hk => by
    by_cases h : l = []
    · subst h; rw [qb_nil, unesc_nil]
    · have hl := drop_lt h
      have ih := unesc_qb k (l.drop (dec l).2) (by omega)
      have hw := dec_width l h
      rw [qb_step h]
      generalize qb (l.drop (dec l).2) = R at ih
      cases hb : bad l with
      | true =>
        have hd : dec l = (65533, 1) := by simpa [bad] using hb
        have hbl := byte_lt l 0
        have hx := esc_x (n := byte l 0) (by omega) R
        rw [piece, if_pos hb, unesc_esc (by simp) (by rw [show [92, 120, 123] ++ hex (byte l 0) ++ [125] ++ R = 92 :: ([120, 123] ++ hex (byte l 0) ++ [125] ++ R) from rfl, dec_slash]) hx, drop_piece, ih, Option.map_some, hd]
        rw [nat_toU (show byte l 0 = (l.getD 0 0).toNat from rfl)]
        exact congrArg some (cons_byte h).symm
      | false =>
        rw [piece, if_neg (by rw [hb]; exact Bool.false_ne_true)]
        have hen := encode_dec l h hb
        cases hs : shown (dec l).1 with
        | true =>
          have hne : (dec l).1 ≠ 92 := by intro e; rw [e] at hs; exact absurd hs (by decide)
          have hd := take_same h hb R
          rw [if_pos rfl, unesc_rune (fun e => take_ne h hw.1 (List.append_eq_nil_iff.1 e).1) (by rw [hd]; exact hne), hd, drop_take_append hw.2.1, ih, Option.map_some, hen, List.take_append_drop]
        | false =>
          have hm := dec_max l h
          have hx := esc_u hm R
          rw [if_neg Bool.false_ne_true, unesc_esc (by simp) (by rw [show [92, 117, 123] ++ hex (dec l).1 ++ [125] ++ R = 92 :: ([117, 123] ++ hex (dec l).1 ++ [125] ++ R) from rfl, dec_slash]) hx, drop_piece, ih, Option.map_some, hen, List.take_append_drop]

theorem inner_quote (l : List UInt8) : inner (quote l) = some (qb l) := by
  have h1 : Lib.hasPrefix (quote l) [34] = true := by simp [quote, Lib.hasPrefix, List.isPrefixOf]
  have h2 : Lib.trimPrefix (quote l) [34] = qb l ++ [34] := by rw [Lib.trimPrefix, if_pos h1]; simp [quote]
  have h3 : Lib.hasSuffix (qb l ++ [34]) [34] = true := by
    rw [Lib.hasSuffix, List.isSuffixOf_iff_suffix]; exact List.suffix_append _ _
  have h4 : Lib.trimSuffix (qb l ++ [34]) [34] = qb l := by rw [Lib.trimSuffix, if_pos h3]; simp
  rw [inner, h1, h2, h3, h4]; rfl

theorem unq_quote (l : List UInt8) : unq (quote l) = some l := by
  rw [unq, inner_quote, Option.bind_some, unesc_qb l.length l (Nat.le_refl _), Option.bind_some, if_pos rfl]

/-! ### a quote is UTF-8 -/
theorem ok_low {c : UInt8} (hc : c.toNat < 128) (t : List UInt8) : (runes (c :: t)).isSome = (runes t).isSome := by
  have hd : dec (c :: t) = (c.toNat, 1) := dec_low (by simp) (by simpa [byte] using hc)
  rw [runes_step (by simp) (by simp [bad, hd]; omega), hd, Option.isSome_map]
  rfl
theorem ok_lows : ∀ (x t : List UInt8), (∀ b ∈ x, b.toNat < 128) → (runes (x ++ t)).isSome = (runes t).isSome
  | [], t, _ => rfl
  | c :: x, t, h => by rw [List.cons_append, ok_low (h c (by simp)), ok_lows x t (fun b hb => h b (by simp [hb]))]

theorem ok_esc (q : UInt8) (hq : q.toNat < 128) {n : Nat} (hn : n ≤ 1114111) (r : List UInt8) : (runes ([92, q, 123] ++ hex n ++ [125] ++ r)).isSome = (runes r).isSome := by
  refine ok_lows _ _ fun b hb => ?_
  rcases List.mem_append.1 hb with hb | hb
  · rcases List.mem_append.1 hb with hb | hb
    · simp at hb
      rcases hb with rfl | rfl | rfl
      · decide
      · exact hq
      · decide
    · have := hex_low hn b hb; omega
  · simp at hb; subst hb; decide

theorem ok_qb : ∀ (k : Nat) (l : List UInt8), l.length ≤ k → ∀ r, (runes (qb l ++ r)).isSome = (runes r).isSome
  | 0, l, hk, r => by
    have : l = [] := List.eq_nil_of_length_eq_zero (by omega)
    subst this; rw [qb_nil]; rfl
  | k + 1, l, hk, r => by
    by_cases h : l = []
    · subst h; rw [qb_nil]; rfl
    · have hl := drop_lt h
      have ih := ok_qb k (l.drop (dec l).2) (by omega) r
      have hw := dec_width l h
      rw [qb_step h, List.append_assoc]
      generalize qb (l.drop (dec l).2) ++ r = R at ih
      rw [← ih]
      cases hb : bad l with
      | true =>
        have hbl := byte_lt l 0
        rw [piece, if_pos hb, ok_esc 120 (by decide) (by omega)]
      | false =>
        rw [piece, if_neg (by rw [hb]; exact Bool.false_ne_true)]
        cases hs : shown (dec l).1 with
        | true =>
          have hd := take_same h hb R
          have hne : l.take (dec l).2 ++ R ≠ [] := fun e => take_ne h hw.1 (List.append_eq_nil_iff.1 e).1
          have hb2 : bad (l.take (dec l).2 ++ R) = false := by rw [bad, hd]; exact hb
          rw [if_pos rfl, runes_step hne hb2, hd, drop_take_append hw.2.1, Option.isSome_map]
        | false =>
          rw [if_neg Bool.false_ne_true, ok_esc 117 (by decide) (dec_max l h)]

theorem ok_quote (l : List UInt8) : (runes (quote l)).isSome = true := by
  rw [quote, List.append_assoc, List.singleton_append, ok_low (by decide), ok_qb l.length l (Nat.le_refl _), ok_low (by decide), runes_nil]
  rfl
end Go.Proofs.YtldfobciojmlnaaDoor.Gly
