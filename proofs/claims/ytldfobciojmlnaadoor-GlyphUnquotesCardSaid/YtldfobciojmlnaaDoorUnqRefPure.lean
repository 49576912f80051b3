/-
  What the document's Unquote reads, as plain mathematics; it reads a quote as the text that it quotes.
-/
import Derived.Test.YtldfobciojmlnaaDoorUnqPure
namespace Go.Proofs.YtldfobciojmlnaaDoor.Gly
open Go

/-- The number of small digits up to a }, or the end, n standing ahead of them; and how many they are. -/
def hexR : Nat → List UInt8 → Option (Nat × Nat)
  | n, [] => some (n, 0)
  | n, c :: t => if c = 125 then some (n, 0) else match hv c.toNat with
    | none => none
    | some d => if 1114111 < n then none else (hexR (n * 16 + d) t).map fun x => (x.1, x.2 + 1)

theorem hexR_nil (n : Nat) : hexR n [] = some (n, 0) := rfl
theorem hexR_end {n : Nat} {l : List UInt8} (h : l ≠ []) (he : byte l 0 = 125) : hexR n l = some (n, 0) := by
  cases l with
  | nil => exact absurd rfl h
  | cons c t =>
    have : c = 125 := UInt8.toNat_inj.1 (by simpa [byte] using he)
    rw [hexR, if_pos this]
theorem hexR_step {n : Nat} {l : List UInt8} (h : l ≠ []) (he : byte l 0 ≠ 125) : hexR n l = match hv (byte l 0) with
    | none => none
    | some d => if 1114111 < n then none else (hexR (n * 16 + d) (l.drop 1)).map fun x => (x.1, x.2 + 1) := by
  cases l with
  | nil => exact absurd rfl h
  | cons c t =>
    have : c ≠ 125 := by intro e; subst e; exact he rfl
    rw [hexR, if_neg this]
    rfl

/-- A rune's bytes, as the document's form lays them (surrogates, too). -/
def formL (n : Nat) : List UInt8 :=
  if n < 128 then [n.toUInt8]
  else if n < 2048 then [(192 + n / 64).toUInt8, (128 + n % 64).toUInt8]
  else if n < 65536 then [(224 + n / 4096).toUInt8, (128 + n / 64 % 64).toUInt8, (128 + n % 64).toUInt8]
  else [(240 + n / 262144).toUInt8, (128 + n / 4096 % 64).toUInt8, (128 + n / 64 % 64).toUInt8, (128 + n % 64).toUInt8]
theorem formL_len (n : Nat) : 1 ≤ (formL n).length ∧ (formL n).length ≤ 4 := by
  unfold formL; repeat' split
  all_goals simp

theorem formL_encode {n : Nat} (h : n < 55296 ∨ (57344 ≤ n ∧ n ≤ 1114111)) : formL n = Lib.encodeRune n := by
  have u : ∀ (a : Nat) (z : Int), z = a → a.toUInt8 = z.toNat.toUInt8 := by intro a z hz; subst hz; rfl
  unfold formL Lib.encodeRune
  by_cases c0 : n < 128
  · rw [if_pos c0, Lib.encodeRuneZ_one (by omega) (by omega), u n n rfl]; rfl
  · by_cases c1 : n < 2048
    · rw [if_neg c0, if_pos c1, Lib.encodeRuneZ_two (by omega) (by omega), u (192 + n / 64) (192 + (n : Int) / 64) (by omega), u (128 + n % 64) (128 + (n : Int) % 64) (by omega)]; rfl
    · by_cases c2 : n < 65536
      · rw [if_neg c0, if_neg c1, if_pos c2, Lib.encodeRuneZ_three (by omega), u (224 + n / 4096) (224 + (n : Int) / 4096) (by omega), u (128 + n / 64 % 64) (128 + (n : Int) / 64 % 64) (by omega), u (128 + n % 64) (128 + (n : Int) % 64) (by omega)]; rfl
      · rw [if_neg c0, if_neg c1, if_neg c2, Lib.encodeRuneZ_four (by omega) (by omega), u (240 + n / 262144) (240 + (n : Int) / 262144) (by omega), u (128 + n / 4096 % 64) (128 + (n : Int) / 4096 % 64) (by omega), u (128 + n / 64 % 64) (128 + (n : Int) / 64 % 64) (by omega), u (128 + n % 64) (128 + (n : Int) % 64) (by omega)]; rfl

def escR (l : List UInt8) : Option (List UInt8 × Nat) :=
  if l.length ≤ 2 ∨ (byte l 1 ≠ 117 ∧ byte l 1 ≠ 120) ∨ byte l 2 ≠ 123 then none else
  match hexR 0 (l.drop 3) with
  | none => none
  | some x => if l.length ≤ 3 + x.2 ∨ x.2 = 0 ∨ 1114111 < x.1 ∨ (byte l 1 = 120 ∧ 255 < x.1) then none
    else some (if byte l 1 = 120 then [x.1.toUInt8] else formL x.1, 3 + x.2)

def unescR (l : List UInt8) : Option (List UInt8) :=
  if _h : l = [] then some [] else
  if byte l 0 = 92 then
    match escR l with
    | none => none
    | some x => (unescR (l.drop (x.2 + 1))).map (x.1 ++ ·)
  else (unescR (l.drop 1)).map ([l.getD 0 0] ++ ·)
termination_by l.length
decreasing_by
  · exact esc_drop (by assumption) _
  · exact esc_drop (by assumption) 0

theorem unescR_nil : unescR [] = some [] := by rw [unescR]; rfl
theorem unescR_byte {l : List UInt8} (h : l ≠ []) (hr : byte l 0 ≠ 92) : unescR l = (unescR (l.drop 1)).map ([l.getD 0 0] ++ ·) := by
  rw [unescR, dif_neg h, if_neg hr]
theorem unescR_none {l : List UInt8} (h : l ≠ []) (hr : byte l 0 = 92) (he : escR l = none) : unescR l = none := by
  rw [unescR, dif_neg h, if_pos hr, he]
theorem unescR_esc {l p : List UInt8} {n : Nat} (h : l ≠ []) (hr : byte l 0 = 92) (he : escR l = some (p, n)) : unescR l = (unescR (l.drop (n + 1))).map (p ++ ·) := by
  rw [unescR, dif_neg h, if_pos hr, he]

/-! ### of a quote -/
theorem hexR_hex (r : List UInt8) : ∀ (l : List UInt8) (m k : Nat), m ≤ 1114111 → hexG m l = some k → hexR m (l ++ 125 :: r) = some (k, l.length)
  | [], m, k, hm, h => by cases h; rw [List.nil_append, hexR, if_pos rfl]; rfl
  | c :: t, m, k, hm, h => by
    have hc := hexG_ascii _ _ _ h c (by simp)
    have hne : c ≠ 125 := by intro e; subst e; exact absurd hc (by decide)
    rw [hexG] at h
    rw [List.cons_append, hexR, if_neg hne]
    cases hd : hv c.toNat with
    | none => rw [hd] at h; cases h
    | some d =>
      rw [hd] at h
      simp only at h ⊢
      split at h
      · cases h
      · rw [if_neg (by omega), hexR_hex r t _ k (by omega) h]
        rfl

theorem escR_q (q : UInt8) (hq : q = 117 ∨ (q = 120)) {n : Nat} (hn : n ≤ 1114111) (hx : q = 120 → n ≤ 255) (r : List UInt8) :
    escR ([92, q, 123] ++ hex n ++ [125] ++ r) = some (if q = 120 then [n.toUInt8] else formL n, 3 + (hex n).length) := by
  have h1 : byte ([92, q, 123] ++ hex n ++ [125] ++ r) 1 = q.toNat := by simp [byte]
  have h2 : byte ([92, q, 123] ++ hex n ++ [125] ++ r) 2 = 123 := by simp [byte]
  have hlen : ([92, q, 123] ++ hex n ++ [125] ++ r).length = 3 + (hex n).length + 1 + r.length := by simp; omega
  have hd : ([92, q, 123] ++ hex n ++ [125] ++ r).drop 3 = hex n ++ 125 :: r := by simp
  have hl := (hex_len 5 n (by omega)).1
  have hq2 : q.toNat = 120 ↔ q = 120 := ⟨fun h => UInt8.toNat_inj.1 h, fun h => by rw [h]; rfl⟩
  unfold escR
  rw [h1, h2, hlen, hd, hexR_hex r _ 0 n (by omega) (hexG_hex n n (Nat.le_refl _) hn)]
  rw [if_neg (by rcases hq with rfl | rfl <;> simp <;> omega)]
  simp only
  rw [if_neg (by
    rintro (h | h | h | ⟨h, h'⟩)
    · omega
    · omega
    · omega
    · have := hx (hq2.1 h); omega)]
  simp only [hq2]

theorem unescR_plain : ∀ (x r : List UInt8), (∀ b ∈ x, b ≠ 92) → unescR (x ++ r) = (unescR r).map (x ++ ·)
  | [], r, _ => by simp
  | c :: x, r, h => by
    have hc := h c (by simp)
    rw [List.cons_append, unescR_byte (by simp) (by intro e; exact hc (UInt8.toNat_inj.1 (by simpa [byte] using e)))]
    rw [List.drop_succ_cons, List.drop_zero, unescR_plain x r (fun b hb => h b (by simp [hb])), Option.map_map]
    rfl

/-- The bytes of a rune that is shown aren't the slash. -/
theorem take_slash {l : List UInt8} (h : l ≠ []) (hb : bad l = false) (hs : shown (dec l).1 = true) : ∀ b ∈ l.take (dec l).2, b ≠ 92 := by
  rw [← encode_dec l h hb]
  intro b hbm e
  subst e
  unfold Lib.encodeRune at hbm
  have hm := dec_max l h
  generalize (dec l).1 = r at *
  rw [List.mem_map] at hbm
  obtain ⟨z, hz, he⟩ := hbm
  have hzb := Lib.encodeRuneZ_byte r z hz
  have hz92 : z = 92 := by
    have := congrArg UInt8.toNat he
    rw [UInt8.toNat_ofNat'] at this
    have : z.toNat % 256 = 92 := this
    omega
  subst hz92
  have hr92 : r ≠ 92 := by intro e; subst e; exact absurd hs (by decide)
  unfold Lib.encodeRuneZ at hz
  repeat' split at hz
  all_goals simp at hz
  all_goals omega

theorem unescR_qb : ∀ (k : Nat) (l : List UInt8), l.length ≤ k → unescR (qb l) = some l
  | 0, l, hk => by
    have : l = [] := List.eq_nil_of_length_eq_zero (by omega)
    subst this; rw [qb_nil, unescR_nil]
  | k + 1, l, hk => by
    by_cases h : l = []
    · subst h; rw [qb_nil, unescR_nil]
    · have hl := drop_lt h
      have ih := unescR_qb k (l.drop (dec l).2) (by omega)
      have hw := dec_width l h
      rw [qb_step h]
      generalize qb (l.drop (dec l).2) = R at ih
      cases hb : bad l with
      | true =>
        have hd : dec l = (65533, 1) := by simpa [bad] using hb
        have hbl := byte_lt l 0
        have hx := escR_q 120 (.inr rfl) (n := byte l 0) (by omega) (fun _ => by omega) R
        rw [if_pos rfl] at hx
        rw [piece, if_pos hb, unescR_esc (by simp) (by simp [byte]) hx, drop_piece, ih, Option.map_some, hd]
        rw [nat_toU (show byte l 0 = (l.getD 0 0).toNat from rfl)]
        exact congrArg some (cons_byte h).symm
      | false =>
        rw [piece, if_neg (by rw [hb]; exact Bool.false_ne_true)]
        have hen := encode_dec l h hb
        cases hs : shown (dec l).1 with
        | true => rw [if_pos rfl, unescR_plain _ _ (take_slash h hb hs), ih, Option.map_some, List.take_append_drop]
        | false =>
          have hm := dec_max l h
          have hx := escR_q 117 (.inl rfl) hm (fun e => absurd e (by decide)) R
          rw [if_neg (by decide), formL_encode (dec_rune l h)] at hx
          rw [if_neg Bool.false_ne_true, unescR_esc (by simp) (by simp [byte]) hx, drop_piece, ih, Option.map_some, hen, List.take_append_drop]

def innerR (l : List UInt8) : Option (List UInt8) :=
  if l.length < 2 ∨ byte l 0 ≠ 34 ∨ byte l (l.length - 1) ≠ 34 then none else some ((l.drop 1).take (l.length - 2))
def unqR (l : List UInt8) : Option (List UInt8) := (innerR l).bind fun m => (unescR m).bind fun t => if quote t = l then some t else none

theorem unqR_quote (l : List UInt8) : unqR (quote l) = some l := by
  have hlen : (quote l).length = (qb l).length + 2 := by simp [quote]
  have h1 : innerR (quote l) = some (qb l) := by
    rw [innerR, if_neg, hlen]
    · simp [quote]
    · rw [hlen]
      have : byte (quote l) ((qb l).length + 2 - 1) = 34 := by
        unfold byte quote
        rw [List.getD_eq_getElem?_getD, List.getElem?_append_right (by simp)]
        simp
      rw [this]
      simp [byte, quote]
  rw [unqR, h1, Option.bind_some, unescR_qb (l.length) l (Nat.le_refl _), Option.bind_some, if_pos rfl]

theorem unq_some {l t : List UInt8} (h : unq l = some t) : quote t = l := by
  unfold unq at h
  cases hi : inner l with
  | none => rw [hi] at h; cases h
  | some m =>
    rw [hi, Option.bind_some] at h
    cases hu : unesc m with
    | none => rw [hu] at h; cases h
    | some u =>
      rw [hu, Option.bind_some] at h
      split at h
      · cases h; assumption
      · cases h
theorem unqR_some {l t : List UInt8} (h : unqR l = some t) : quote t = l := by
  unfold unqR at h
  cases hi : innerR l with
  | none => rw [hi] at h; cases h
  | some m =>
    rw [hi, Option.bind_some] at h
    cases hu : unescR m with
    | none => rw [hu] at h; cases h
    | some u =>
      rw [hu, Option.bind_some] at h
      split at h
      · cases h; assumption
      · cases h

/-- Both read the same. -/
theorem unq_eq (l : List UInt8) : unqR l = unq l := by
  cases h : unq l with
  | some t => rw [← unq_some h, unqR_quote]
  | none =>
    cases h' : unqR l with
    | none => rfl
    | some t => rw [← unqR_some h', unq_quote] at h; cases h
end Go.Proofs.YtldfobciojmlnaaDoor.Gly
