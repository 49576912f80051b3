/-
  Layer 14, pure: what stands on a hoard's tray, whatever is lost.
-/
import Derived.Test.YtkfmmdiflbnhgaaHoHd
import Derived.Test.YtkfmmdiflbnhgaaSgpK
namespace Go.Proofs.Ytkfmmdiflbnhgaa
set_option maxRecDepth 100000
open Ta (nul Tray pad)
open Sp (S Live Torn rdS found parts be be_len num num_be_of part_at crc)
namespace Ho
/-! ### a mark is told -/
theorem six_append (a b : List Nat) : six (a ++ b) = six a ++ six b := List.flatMap_append
theorem mkS_part {ms : List Nat} {i : Nat} (h : i < ms.length) : ((mkS ms).drop (1 + 6 * i)).take 6 = be 6 ms[i] := by
  have e : six ms = six (ms.take i) ++ (be 6 ms[i] ++ six (ms.drop (i + 1))) := by
    have h1 : ms = ms.take i ++ (ms[i] :: ms.drop (i + 1)) := by rw [← List.drop_eq_getElem_cons h, List.take_append_drop]
    calc six ms = six (ms.take i ++ (ms[i] :: ms.drop (i + 1))) := by rw [← h1]
      _ = _ := by rw [six_append]; rfl
  have e2 : mkS ms = (77 :: six (ms.take i)) ++ (be 6 ms[i] ++ (six (ms.drop (i + 1)) ++ (List.replicate 93 0 ++ be 4 (crc (mhead ms))))) := by
    conv => lhs; rw [mkS]
    conv => lhs; arg 1; rw [mhead, e]
    simp only [List.cons_append, List.append_assoc]
  rw [e2]
  exact part_at (by rw [List.length_cons, six_len, List.length_take]; omega) (be_len _ _)
theorem mkO_mkS {ms : List Nat} (h5 : ms.length = 5) (hb : ∀ m ∈ ms, m < 281474976710656) : mkO (mkS ms) = ms := by
  refine List.ext_getElem (by rw [mkO_len, h5]) fun i h1 h2 => ?_
  rw [mkO_at, mkS_part h2]
  exact num_be_of (hb _ (List.getElem_mem h2))
/-! ### what is read behind a loss -/
theorem lose_same {t : Tray (List UInt8)} (hc : t.cache = []) (ch : List Bool) (k : Int) : (t.lose ch).read nul k = t.read nul k := by
  have e : Ta.pick ([] : List (Int × List UInt8)) ch = [] := by cases ch <;> rfl
  rw [Ta.Tray.read_lose, Ta.Tray.read_is, hc, e]
theorem lose_off {t t' : Tray (List UInt8)} {P : Int → Prop} (hk : t'.kept = t.kept) (hc : t.cache = []) (hx : ∀ x ∈ t'.cache, P x.1) (ch : List Bool) {k : Int} (hP : ¬ P k) : (t'.lose ch).read nul k = t.read nul k := by
  have hn : ∀ x ∈ Ta.pick t'.cache ch, x.1 ≠ k := fun x hm e => hP (by rw [← e]; exact hx x (Ta.pick_mem hm))
  rw [Ta.Tray.read_lose, Ta.last_none hn]
  unfold Ta.Tray.was Ta.Tray.read
  rw [hk, hc, List.append_nil]
section
variable {t : Tray (List UInt8)} {ms : List Nat} {a : Nat} {b : List UInt8}
theorem flush_goes {t : Tray (List UInt8)} (h : t.left ≠ 0) : t.flush.cache = [] ∧ t.flush.kept = t.kept ++ t.cache := by
  unfold Tray.flush
  rw [if_neg h]
  exact ⟨rfl, rfl⟩
theorem put_goes {t : Tray (List UInt8)} (h : t.left ≠ 0) (k : Int) (b : List UInt8) : (t.put k b).cache = t.cache ++ [(k, b)] ∧ (t.put k b).kept = t.kept := by
  unfold Tray.put
  rw [if_neg h]
  exact ⟨rfl, rfl⟩
theorem set_good (h : (setT t ms).2 = 0) : (setT t ms).1.cache = [] ∧ ∀ k, (setT t ms).1.read nul k = if ((ms.getD 0 0 % 2 : Nat) : Int) = k then mkS ms else t.read nul k := by
  unfold setT at h ⊢
  by_cases h0 : t.left = 0
  · rw [if_pos h0] at h; cases h
  · rw [if_neg h0] at h ⊢
    by_cases h1 : (t.put ((ms.getD 0 0 % 2 : Nat) : Int) (mkS ms)).left = 0
    · rw [if_pos h1] at h; cases h
    · rw [if_neg h1]
      exact ⟨(flush_goes h1).1, fun k => by rw [Ta.Tray.flush_read, Ta.Tray.put_read nul h0]⟩
theorem set_bad (hc : t.cache = []) (h : (setT t ms).2 ≠ 0) : (setT t ms).1.kept = t.kept ∧ ((setT t ms).1.cache = [] ∨ (setT t ms).1.cache = [(((ms.getD 0 0 % 2 : Nat) : Int), mkS ms)]) := by
  unfold setT at h ⊢
  by_cases h0 : t.left = 0
  · rw [if_pos h0]
    exact ⟨rfl, .inl hc⟩
  · rw [if_neg h0] at h ⊢
    obtain ⟨p1, p2⟩ := put_goes h0 ((ms.getD 0 0 % 2 : Nat) : Int) (mkS ms)
    by_cases h1 : (t.put ((ms.getD 0 0 % 2 : Nat) : Int) (mkS ms)).left = 0
    · rw [if_pos h1]
      unfold Tray.flush
      rw [if_pos h1]
      refine ⟨p2, .inr ?_⟩
      show (t.put _ _).cache = _
      rw [p1, hc]
      rfl
    · rw [if_neg h1] at h
      exact absurd rfl h
theorem set_free (h : t.left = -1) : (setT t ms).2 = 0 ∧ (setT t ms).1.left = -1 := by
  unfold setT
  have hp := Tray.put_left h ((ms.getD 0 0 % 2 : Nat) : Int) (mkS ms)
  rw [if_neg (by omega), if_neg (by omega)]
  exact ⟨rfl, Tray.flush_left hp⟩
theorem fwr_wr : ∀ (f k : Nat) (t : Tray (List UInt8)), (fwr a b f k t).1.kept = t.kept ∧ ∀ x ∈ (fwr a b f k t).1.cache, x ∈ t.cache ∨ ∃ i, k ≤ i ∧ i < k + f ∧ x = (((a + i : Nat) : Int), pad (chk b i))
  | 0, k, t => ⟨rfl, fun x hx => .inl hx⟩
  | f + 1, k, t => by
    by_cases h : t.left = 0
    · rw [fwr_stop h]
      exact ⟨rfl, fun x hx => .inl hx⟩
    · rw [fwr_go h]
      obtain ⟨h1, h2⟩ := fwr_wr f (k + 1) (t.put ((a + k : Nat) : Int) (pad (chk b k)))
      obtain ⟨p1, p2⟩ := put_goes h ((a + k : Nat) : Int) (pad (chk b k))
      refine ⟨by rw [h1, p2], fun x hx => ?_⟩
      rcases h2 x hx with h3 | ⟨i, h3, h4, h5⟩
      · rw [p1] at h3
        rcases List.mem_append.1 h3 with h3 | h3
        · exact .inl h3
        · rw [List.mem_singleton] at h3
          exact .inr ⟨k, Nat.le_refl _, by omega, h3⟩
      · exact .inr ⟨i, by omega, by omega, h5⟩
theorem fwr_rd : ∀ (f k : Nat) (t : Tray (List UInt8)) (z : Int), (∀ i, k ≤ i → i < k + f → ((a + i : Nat) : Int) ≠ z) → (fwr a b f k t).1.read nul z = t.read nul z
  | 0, k, t, z, _ => rfl
  | f + 1, k, t, z, h => by
    by_cases h0 : t.left = 0
    · rw [fwr_stop h0]
      rfl
    · rw [fwr_go h0, fwr_rd f (k + 1) _ z fun i h1 h2 => h i (by omega) (by omega), Ta.Tray.put_read nul h0, if_neg (h k (Nat.le_refl _) (by omega))]
theorem fwr_rec : ∀ (f k : Nat) (t : Tray (List UInt8)), (fwr a b f k t).2 = true → ∀ i, k ≤ i → i < k + f → (fwr a b f k t).1.read nul ((a + i : Nat) : Int) = pad (chk b i)
  | 0, k, t, _, i, h1, h2 => by omega
  | f + 1, k, t, hw, i, h1, h2 => by
    by_cases h0 : t.left = 0
    · rw [fwr_stop h0] at hw
      cases hw
    · rw [fwr_go h0] at hw ⊢
      by_cases hi : i = k
      · subst hi
        rw [fwr_rd f (i + 1) _ _ fun j h3 h4 h5 => by omega, Ta.Tray.put_read nul h0, if_pos rfl]
      · exact fwr_rec f (k + 1) _ hw i (by omega) (by omega)
theorem fwr_free : ∀ (f k : Nat) (t : Tray (List UInt8)), t.left = -1 → (fwr a b f k t).2 = true ∧ (fwr a b f k t).1.left = -1
  | 0, k, t, h => ⟨rfl, h⟩
  | f + 1, k, t, h => by
    rw [fwr_go (by omega)]
    exact fwr_free f (k + 1) _ (Tray.put_left h _ _)
theorem field_good (h : (fieldT a b t).2 = 0) : (fieldT a b t).1.cache = [] ∧ (∀ i, i < takes b → (fieldT a b t).1.read nul ((a + i : Nat) : Int) = pad (chk b i)) ∧ ∀ k, (∀ i, i < takes b → ((a + i : Nat) : Int) ≠ k) → (fieldT a b t).1.read nul k = t.read nul k := by
  have w1 := fwr_rec (a := a) (b := b) (takes b) 0 t
  have w2 := fwr_rd (a := a) (b := b) (takes b) 0 t
  unfold fieldT at h ⊢
  generalize fwr a b (takes b) 0 t = W at *
  by_cases hW : W.2 = true
  · rw [if_pos hW] at h ⊢
    by_cases h0 : W.1.left = 0
    · rw [if_pos h0] at h; cases h
    · exact ⟨(flush_goes h0).1, fun i hi => by show W.1.flush.read nul _ = _; rw [Ta.Tray.flush_read]; exact w1 hW i (Nat.zero_le _) (by omega), fun k hk => by show W.1.flush.read nul _ = _; rw [Ta.Tray.flush_read]; exact w2 k fun i _ hi => hk i (by omega)⟩
  · rw [if_neg hW] at h; cases h
theorem field_bad (hc : t.cache = []) (h : (fieldT a b t).2 ≠ 0) : (fieldT a b t).1.kept = t.kept ∧ ∀ x ∈ (fieldT a b t).1.cache, ∃ i, i < takes b ∧ x.1 = ((a + i : Nat) : Int) := by
  obtain ⟨w1, w2⟩ := fwr_wr (a := a) (b := b) (takes b) 0 t
  have w3 : ∀ x ∈ (fwr a b (takes b) 0 t).1.cache, ∃ i, i < takes b ∧ x.1 = ((a + i : Nat) : Int) := fun x hx => by
    rcases w2 x hx with h1 | ⟨i, -, h2, h3⟩
    · rw [hc] at h1; cases h1
    · exact ⟨i, by omega, by rw [h3]⟩
  unfold fieldT at h ⊢
  generalize fwr a b (takes b) 0 t = W at *
  by_cases hW : W.2 = true
  · rw [if_pos hW] at h ⊢
    by_cases h0 : W.1.left = 0
    · unfold Tray.flush
      rw [if_pos h0]
      exact ⟨w1, w3⟩
    · rw [if_neg h0] at h
      exact absurd rfl h
  · rw [if_neg hW]
    exact ⟨w1, w3⟩
theorem field_free (h : t.left = -1) : (fieldT a b t).2 = 0 ∧ (fieldT a b t).1.left = -1 := by
  obtain ⟨h1, h2⟩ := fwr_free (a := a) (b := b) (takes b) 0 t h
  unfold fieldT
  rw [if_pos h1, if_neg (by omega)]
  exact ⟨rfl, Tray.flush_left h2⟩
theorem keep_good (ha : 2 ≤ a) (h : (keepT a b ms t).2 = 0) : (keepT a b ms t).1.cache = [] ∧ (keepT a b ms t).1.read nul ((ms.getD 0 0 % 2 : Nat) : Int) = mkS ms ∧ (∀ i, i < takes b → (keepT a b ms t).1.read nul ((a + i : Nat) : Int) = pad (chk b i)) ∧
    ∀ k, k ≠ ((ms.getD 0 0 % 2 : Nat) : Int) → (∀ i, i < takes b → ((a + i : Nat) : Int) ≠ k) → (keepT a b ms t).1.read nul k = t.read nul k := by
  unfold keepT at h ⊢
  by_cases hf : (fieldT a b t).2 = 0
  · rw [if_pos hf] at h ⊢
    obtain ⟨-, f2, f3⟩ := field_good hf
    obtain ⟨s1, s2⟩ := set_good h
    refine ⟨s1, by rw [s2, if_pos rfl], fun i hi => by rw [s2, if_neg (by omega)]; exact f2 i hi, fun k h1 h2 => by rw [s2, if_neg (Ne.symm h1)]; exact f3 k h2⟩
  · rw [if_neg hf] at h
    exact absurd h hf
/-- Refused: behind any loss all is as it was, but that field; or the mark is set, and the image whole. -/
theorem keep_bad (ha : 2 ≤ a) (hc : t.cache = []) (h : (keepT a b ms t).2 ≠ 0) (ch : List Bool) : (∀ k, k ≠ ((ms.getD 0 0 % 2 : Nat) : Int) → (∀ i, i < takes b → ((a + i : Nat) : Int) ≠ k) → ((keepT a b ms t).1.lose ch).read nul k = t.read nul k) ∧
    (((keepT a b ms t).1.lose ch).read nul ((ms.getD 0 0 % 2 : Nat) : Int) = t.read nul ((ms.getD 0 0 % 2 : Nat) : Int) ∨
      (((keepT a b ms t).1.lose ch).read nul ((ms.getD 0 0 % 2 : Nat) : Int) = mkS ms ∧ ∀ i, i < takes b → ((keepT a b ms t).1.lose ch).read nul ((a + i : Nat) : Int) = pad (chk b i))) := by
  unfold keepT at h ⊢
  by_cases hf : (fieldT a b t).2 = 0
  · rw [if_pos hf] at h ⊢
    obtain ⟨f1, f2, f3⟩ := field_good hf
    obtain ⟨s1, s2⟩ := set_bad f1 h
    generalize fieldT a b t = T at *
    generalize (setT T.1 ms).1 = U at *
    have hoff : ∀ k, k ≠ ((ms.getD 0 0 % 2 : Nat) : Int) → (U.lose ch).read nul k = T.1.read nul k := fun k hk => lose_off (P := fun z => z = ((ms.getD 0 0 % 2 : Nat) : Int)) s1 f1 (fun x hx => by
      rcases s2 with s2 | s2
      · rw [s2] at hx; cases hx
      · rw [s2, List.mem_singleton] at hx
        rw [hx]) ch hk
    refine ⟨fun k h1 h2 => by rw [hoff k h1]; exact f3 k h2, ?_⟩
    rcases s2 with s2 | s2
    · refine .inl ?_
      rw [Ta.Tray.read_lose, s2, show Ta.pick ([] : List (Int × List UInt8)) ch = [] by cases ch <;> rfl]
      show U.was nul _ = _
      rw [← f3 _ fun i hi => by omega]
      unfold Ta.Tray.was Ta.Tray.read
      rw [s1, f1, List.append_nil]
    · have hp : Ta.pick [(((ms.getD 0 0 % 2 : Nat) : Int), mkS ms)] ch = [] ∨ Ta.pick [(((ms.getD 0 0 % 2 : Nat) : Int), mkS ms)] ch = [(((ms.getD 0 0 % 2 : Nat) : Int), mkS ms)] := by
        cases ch with
        | nil => exact .inl rfl
        | cons c r => cases c <;> simp [Ta.pick] <;> cases r <;> simp [Ta.pick]
      rcases hp with hp | hp
      · refine .inl ?_
        rw [Ta.Tray.read_lose, s2, hp]
        show U.was nul _ = _
        rw [← f3 _ fun i hi => by omega]
        unfold Ta.Tray.was Ta.Tray.read
        rw [s1, f1, List.append_nil]
      · refine .inr ⟨?_, fun i hi => by rw [hoff _ (by omega)]; exact f2 i hi⟩
        rw [Ta.Tray.read_lose, s2, hp]
        show (if _ then _ else _) = _
        rw [if_pos rfl]
  · rw [if_neg hf] at h ⊢
    obtain ⟨b1, b2⟩ := field_bad hc hf
    have hoff : ∀ k, (∀ i, i < takes b → ((a + i : Nat) : Int) ≠ k) → ((fieldT a b t).1.lose ch).read nul k = t.read nul k := fun k hk => lose_off (P := fun z => ∃ i, i < takes b ∧ z = ((a + i : Nat) : Int)) b1 hc b2 ch fun ⟨i, hi, e⟩ => hk i hi e.symm
    exact ⟨fun k _ h2 => hoff k h2, .inl (hoff _ fun i hi => by omega)⟩
theorem keep_free (h : t.left = -1) : (keepT a b ms t).2 = 0 ∧ (keepT a b ms t).1.left = -1 := by
  obtain ⟨h1, h2⟩ := field_free (a := a) (b := b) h
  unfold keepT
  rw [if_pos h1]
  exact set_free h2
/-- An image that stands on its field. -/
theorem img_is (hl : ∀ z, (t.read nul z).length = 128) (h : ∀ i, i < takes b → t.read nul ((a + i : Nat) : Int) = pad (chk b i)) : imgT t a b.length = b := by
  have key : ∀ k, k ≤ takes b → (secs t a k).take b.length = b.take (k * 128) := fun k => by
    induction k with
    | zero => intro _; simp [secs]
    | succ k ih =>
      intro hk
      have hkb : k * 128 < b.length := by unfold takes at hk; omega
      have hcl := chk_len b k
      rw [img_succ hl (by omega), ih (by omega), h k (by omega), pad, List.take_left' (by omega), chk, Nat.add_mul, Nat.one_mul, List.take_add]
  have h1 := key (takes b) (Nat.le_refl _)
  unfold imgT
  rw [show (b.length + 127) / 128 = takes b from rfl, h1, List.take_of_length_le (by unfold takes; omega)]
end
end Ho
end Go.Proofs.Ytkfmmdiflbnhgaa
