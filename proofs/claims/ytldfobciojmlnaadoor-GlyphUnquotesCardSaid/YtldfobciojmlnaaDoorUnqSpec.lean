/-
  What the inside of a quote says, as the program reads it: hexadecimal numbers, escapes, the text. (Plain mathematics; no proof of a call.)
-/
import Derived.Test.YtldfobciojmlnaaDoorQtPure
import Derived.Test.YtldfobciojmlnaaDoorClipPure
import Derived.Test.YtldfobciojmlnaaDoorNames
namespace Go.Proofs.YtldfobciojmlnaaDoor.Gly
open Go

/-- A small hexadecimal digit's value. -/
def hv (r : Nat) : Option Nat := if 48 ≤ r ∧ r ≤ 57 then some (r - 48) else if 97 ≤ r ∧ r ≤ 102 then some (r - 87) else none
theorem hv_digit {r : Nat} (h : 48 ≤ r ∧ r ≤ 57) : hv r = some (r - 48) := by rw [hv, if_pos h]
theorem hv_letter {r : Nat} (h : 97 ≤ r ∧ r ≤ 102) : hv r = some (r - 87) := by rw [hv, if_neg (by omega), if_pos h]
theorem hv_none {r : Nat} (h : ¬ (48 ≤ r ∧ r ≤ 57)) (h' : ¬ (97 ≤ r ∧ r ≤ 102)) : hv r = none := by rw [hv, if_neg h, if_neg h']
theorem hv_some {r d : Nat} (h : hv r = some d) : (48 ≤ r ∧ r ≤ 57 ∧ d = r - 48) ∨ (97 ≤ r ∧ r ≤ 102 ∧ d = r - 87) := by
  by_cases a : 48 ≤ r ∧ r ≤ 57
  · rw [hv_digit a] at h; cases h; exact .inl ⟨a.1, a.2, rfl⟩
  · by_cases b : 97 ≤ r ∧ r ≤ 102
    · rw [hv_letter b] at h; cases h; exact .inr ⟨b.1, b.2, rfl⟩
    · rw [hv_none a b] at h; cases h

/-- The number of small digits, n standing ahead of them; none: another byte, or more than a rune's. -/
def hexG : Nat → List UInt8 → Option Nat
  | n, [] => some n
  | n, c :: t => match hv c.toNat with
    | none => none
    | some d => if 1114111 < n * 16 + d then none else hexG (n * 16 + d) t

theorem hexG_step {n : Nat} {l : List UInt8} (h : l ≠ []) : hexG n l = match hv (dec l).1 with
    | none => none
    | some d => if 1114111 < n * 16 + d then none else hexG (n * 16 + d) (l.drop (dec l).2) := by
  have e : hexG n l = match hv (byte l 0) with
    | none => none
    | some d => if 1114111 < n * 16 + d then none else hexG (n * 16 + d) (l.drop 1) := by
    cases l with
    | nil => exact absurd rfl h
    | cons c t => rfl
  rw [e]
  by_cases hb : byte l 0 < 128
  · rw [dec_low h hb]
  · have := dec_high h (by omega)
    rw [hv_none (by omega) (by omega), hv_none (r := (dec l).1) (by omega) (by omega)]

theorem hexG_max : ∀ (l : List UInt8) (n m : Nat), n ≤ 1114111 → hexG n l = some m → m ≤ 1114111
  | [], n, m, hn, h => by cases h; exact hn
  | c :: t, n, m, hn, h => by
    rw [hexG] at h
    cases hd : hv c.toNat with
    | none => rw [hd] at h; cases h
    | some d =>
      rw [hd] at h
      simp only at h
      split at h
      · cases h
      · exact hexG_max t _ m (by omega) h

theorem hexG_ascii : ∀ (l : List UInt8) (n m : Nat), hexG n l = some m → ∀ b ∈ l, b.toNat < 123
  | [], _, _, _, b, hb => by cases hb
  | c :: t, n, m, h, b, hb => by
    rw [hexG] at h
    cases hd : hv c.toNat with
    | none => rw [hd] at h; cases h
    | some d =>
      rw [hd] at h
      simp only at h
      split at h
      · cases h
      · rcases List.mem_cons.1 hb with rfl | hb
        · rcases hv_some hd with h | h <;> omega
        · exact hexG_ascii t _ m h b hb

/-- What a piece at the front that begins with \ stands for, and where its } is; none: it is no such piece. -/
def esc (l : List UInt8) : Option (List UInt8 × Nat) :=
  if Lib.indexByte l 125 < 3 then none else
  match hexG 0 ((l.drop 3).take ((Lib.indexByte l 125).toNat - 3)) with
  | none => none
  | some n => if Lib.hasPrefix l [92, 117, 123] then some (Lib.encodeRune n, (Lib.indexByte l 125).toNat)
    else if Lib.hasPrefix l [92, 120, 123] && decide (n ≤ 255) then some ([n.toUInt8], (Lib.indexByte l 125).toNat) else none

theorem esc_drop {l : List UInt8} (h : l ≠ []) (n : Nat) : (l.drop (n + 1)).length < l.length := by
  have := len_pos h
  rw [List.length_drop]; omega

/-- The text of a quote's inside. -/
def unesc (l : List UInt8) : Option (List UInt8) :=
  if _h : l = [] then some [] else
  if (dec l).1 = 92 then
    match esc l with
    | none => none
    | some x => (unesc (l.drop (x.2 + 1))).map (x.1 ++ ·)
  else (unesc (l.drop (dec l).2)).map (Lib.encodeRune (dec l).1 ++ ·)
termination_by l.length
decreasing_by
  · exact esc_drop (by assumption) _
  · exact drop_lt (by assumption)

theorem unesc_nil : unesc [] = some [] := by rw [unesc]; rfl
theorem unesc_rune {l : List UInt8} (h : l ≠ []) (hr : (dec l).1 ≠ 92) : unesc l = (unesc (l.drop (dec l).2)).map (Lib.encodeRune (dec l).1 ++ ·) := by
  rw [unesc, dif_neg h, if_neg hr]
theorem unesc_none {l : List UInt8} (h : l ≠ []) (hr : (dec l).1 = 92) (he : esc l = none) : unesc l = none := by
  rw [unesc, dif_neg h, if_pos hr, he]
theorem unesc_esc {l p : List UInt8} {n : Nat} (h : l ≠ []) (hr : (dec l).1 = 92) (he : esc l = some (p, n)) : unesc l = (unesc (l.drop (n + 1))).map (p ++ ·) := by
  rw [unesc, dif_neg h, if_pos hr, he]

theorem indexByte_at : ∀ {l : List UInt8} {c : UInt8} {o : Nat}, Lib.indexByte l c = o → o < l.length ∧ byte l o = c.toNat
  | [], c, o, h => by simp [Lib.indexByte] at h
  | b :: l, c, o, h => by
    rw [Lib.indexByte] at h
    split at h
    · rename_i e
      have : o = 0 := by omega
      subst this
      have e' : b = c := by simpa using e
      subst e'
      exact ⟨by simp, rfl⟩
    · split at h
      · omega
      · rename_i e1 e2
        have hg := Lib.indexByte_ge l c
        have e2' : Lib.indexByte l c ≠ -1 := by simpa using e2
        obtain ⟨k, hk⟩ : ∃ k : Nat, Lib.indexByte l c = k := ⟨(Lib.indexByte l c).toNat, by omega⟩
        have := indexByte_at hk
        have ho : o = k + 1 := by omega
        subst ho
        exact ⟨by simp; omega, this.2⟩

theorem byte_mem {l : List UInt8} {k : Nat} (h : k < l.length) : l.getD k 0 ∈ l := by
  rw [List.getD_eq_getElem?_getD, List.getElem?_eq_getElem h]; exact List.getElem_mem h

/-- All the bytes of a good piece are below 128; its end stands in the text. -/
theorem esc_ascii {l p : List UInt8} {n : Nat} (he : esc l = some (p, n)) : n < l.length ∧ 3 ≤ n ∧ (∀ j, j ≤ n → byte l j < 128) ∧ p.length ≤ 4 := by
  unfold esc at he
  split at he
  · cases he
  · rename_i h3
    obtain ⟨k, hk⟩ : ∃ k : Nat, Lib.indexByte l 125 = k := ⟨(Lib.indexByte l 125).toNat, by omega⟩
    obtain ⟨hlt, hb⟩ := indexByte_at hk
    rw [hk] at he h3
    simp only [Int.toNat_natCast] at he
    cases hx : hexG 0 ((l.drop 3).take (k - 3)) with
    | none => rw [hx] at he; cases he
    | some m =>
      rw [hx] at he
      simp only at he
      have hdig := hexG_ascii _ _ _ hx
      have main : ∀ q : UInt8, Lib.hasPrefix l [92, q, 123] = true → q.toNat < 128 → ∀ j, j ≤ k → byte l j < 128 := by
        intro q hq hq2 j hj
        rw [Lib.hasPrefix, List.isPrefixOf_iff_prefix] at hq
        obtain ⟨t, rfl⟩ := hq
        match j, hj with
        | 0, _ => simp [byte]
        | 1, _ => simpa [byte] using hq2
        | 2, _ => simp [byte]
        | j + 3, hj =>
          by_cases e : j + 3 = k
          · rw [e, hb]; decide
          · have hm : (([92, q, 123] ++ t).drop 3).getD j 0 ∈ (([92, q, 123] ++ t).drop 3).take (k - 3) := by
              have hl : j < ((([92, q, 123] ++ t).drop 3).take (k - 3)).length := by
                rw [List.length_take, List.length_drop]; omega
              have := byte_mem hl
              have e2 : ((([92, q, 123] ++ t).drop 3).take (k - 3)).getD j 0 = (([92, q, 123] ++ t).drop 3).getD j 0 := by
                simp [List.getD, List.getElem?_take]
                rw [if_pos (by omega)]
              rw [e2] at this
              exact this
            have := hdig _ hm
            rw [getD_drop, Nat.add_comm] at this
            unfold byte
            omega
      split at he
      · rename_i hp
        cases he
        refine ⟨hlt, by omega, main 117 hp (by decide), ?_⟩
        rw [← Lib.runeCells_length]; exact (Lib.runeCells_le _).2
      · split at he
        · rename_i _ hp
          cases he
          simp only [Bool.and_eq_true] at hp
          exact ⟨hlt, by omega, main 120 hp.1 (by decide), by simp⟩
        · cases he
end Go.Proofs.YtldfobciojmlnaaDoor.Gly
