/-
  Layer 13, pure: what an append makes of a tray, told by numbers.
-/
import Derived.Test.YtdodmjcbjknneaaSpKeep
namespace Go.Proofs.Ytdodmjcbjknneaa
set_option maxRecDepth 100000
open Ta (nul Tray)
namespace Sp
section
variable {s : S} {b : List UInt8} {o : Nat}
theorem at_inj {x y : Nat} (h : s.at x = s.at y) : x % s.count = y % s.count := by
  unfold S.at at h
  omega
/-- What lies in the cache behind the writes. -/
theorem wr_writes : ∀ (f k : Nat) (t : Tray (List UInt8)), (wr s b o f k t).1.kept = t.kept ∧ ∀ x ∈ (wr s b o f k t).1.cache, x ∈ t.cache ∨ ∃ i, k ≤ i ∧ i < k + f ∧ x = (((s.at (s.tail + i) : Nat) : Int), s.sector b o i)
  | 0, k, t => ⟨rfl, fun x hx => .inl hx⟩
  | f + 1, k, t => by
    by_cases h : t.left = 0
    · rw [wr_stop h]
      exact ⟨rfl, fun x hx => .inl hx⟩
    · rw [wr_go h]
      obtain ⟨h1, h2⟩ := wr_writes f (k + 1) (t.put (s.at (s.tail + k) : Nat) (s.sector b o k))
      refine ⟨by rw [h1]; unfold Tray.put; rw [if_neg h]; rfl, fun x hx => ?_⟩
      rcases h2 x hx with h3 | ⟨i, h3, h4, h5⟩
      · unfold Tray.put at h3
        rw [if_neg h] at h3
        rcases List.mem_append.1 h3 with h3 | h3
        · exact .inl h3
        · rw [List.mem_singleton] at h3
          exact .inr ⟨k, Nat.le_refl _, by omega, h3⟩
      · exact .inr ⟨i, by omega, by omega, h5⟩
/-- What they don't touch. -/
theorem wr_read : ∀ (f k : Nat) (t : Tray (List UInt8)) (a : Int), (∀ i, k ≤ i → i < k + f → ((s.at (s.tail + i) : Nat) : Int) ≠ a) → (wr s b o f k t).1.read nul a = t.read nul a
  | 0, k, t, a, _ => rfl
  | f + 1, k, t, a, h => by
    by_cases h0 : t.left = 0
    · rw [wr_stop h0]
      rfl
    · rw [wr_go h0, wr_read f (k + 1) _ a fun i h1 h2 => h i (by omega) (by omega), Ta.Tray.put_read nul h0, if_neg (h k (Nat.le_refl _) (by omega))]
/-- All of them, if none was refused. -/
theorem wr_rec (hc : 0 < s.count) : ∀ (f k : Nat) (t : Tray (List UInt8)), f ≤ s.count → (wr s b o f k t).2 = true → ∀ i, k ≤ i → i < k + f → (wr s b o f k t).1.read nul ((s.at (s.tail + i) : Nat) : Int) = s.sector b o i
  | 0, k, t, _, _, i, h1, h2 => by omega
  | f + 1, k, t, hf, hw, i, h1, h2 => by
    by_cases h0 : t.left = 0
    · rw [wr_stop h0] at hw
      cases hw
    · rw [wr_go h0] at hw ⊢
      by_cases hi : i = k
      · subst hi
        rw [wr_read f (i + 1) _ _ fun j h3 h4 h5 => ?_, Ta.Tray.put_read nul h0, if_pos rfl]
        have h6 := at_inj (s := s) (x := s.tail + j) (y := s.tail + i) (by omega)
        have h7 := mod_apart (c := s.count) (a := s.tail + i) (x := s.tail + j) (y := s.tail + i) (by omega) (Nat.le_refl _) (by omega) (by omega) h6
        omega
      · exact wr_rec hc f (k + 1) _ (by omega) hw i (by omega) (by omega)
end
/-- Alive: all is flushed; the records of r stand from the head to the tail. -/
structure Live (t : Tray (List UInt8)) (s : S) (r : List (List UInt8 × Nat)) : Prop where
  cache : t.cache = []
  dead : s.dead = false
  inv : Inv (rdS t s) s.count s.head s.tail s.epoch r
  calm : Calm (rdS t s) s.tail s.epoch
  small : 0 < s.count ∧ s.count ≤ 4096
/-- A record was being appended, when the power went. -/
structure Torn (t : Tray (List UInt8)) (s : S) (r : List (List UInt8 × Nat)) (b : List UInt8) : Prop where
  was : ∃ rd, Inv rd s.count s.head s.tail s.epoch r ∧ Calm rd s.tail s.epoch ∧ ∀ ch, Over rd (rdS (t.lose ch) s) s.count s.tail s.epoch b
  len : b.length ≤ 60000
  fits : s.tail + parts b.length ≤ s.head + s.count
  small : 0 < s.count ∧ s.count ≤ 4096
theorem rdS_over {t : Tray (List UInt8)} {s : S} {b : List UInt8} {l : List (Int × List UInt8)} (hl : ∀ x ∈ l, ∃ i, i < parts b.length ∧ x = (((s.at (s.tail + i) : Nat) : Int), s.sector b (parts b.length) i)) (n : Nat) :
    Ta.last l ((s.at n : Nat) : Int) (t.read nul ((s.at n : Nat) : Int)) = rdS t s n ∨ ∃ k, k < parts b.length ∧ n % s.count = (s.tail + k) % s.count ∧ Ta.last l ((s.at n : Nat) : Int) (t.read nul ((s.at n : Nat) : Int)) = secB s.epoch (s.tail + k) k (parts b.length) (chunk b k) := by
  rcases Ta.last_or l ((s.at n : Nat) : Int) (t.read nul ((s.at n : Nat) : Int)) with h | ⟨x, hx, h1, h2⟩
  · exact .inl h
  · obtain ⟨i, hi, rfl⟩ := hl x hx
    refine .inr ⟨i, hi, ?_, ?_⟩
    · exact (at_inj (s := s) (x := s.tail + i) (y := n) (by simp only at h1; omega)).symm
    · rw [← h2]
      rfl
section
variable {t : Tray (List UInt8)} {s : S} {r : List (List UInt8 × Nat)} {b : List UInt8}
/-- An append that comes out OK. -/
theorem Live.goes (h : Live t s r) (hb : b.length ≤ 60000) (hl : ∀ k, (rdS (wrote s b (parts b.length) t).1 s k).length = 128) (hf : s.tail + parts b.length ≤ s.head + s.count) (hw : (wrote s b (parts b.length) t).2 = true) :
    Live (wrote s b (parts b.length) t).1 { s with tail := s.tail + parts b.length } (r ++ [(b, s.epoch)]) := by
  have hroom := h.inv.stands.len
  obtain ⟨w1, w2⟩ := wr_writes (s := s) (b := b) (o := parts b.length) (parts b.length) 0 t
  have w3 := wr_rec (s := s) (b := b) (o := parts b.length) h.small.1 (parts b.length) 0 t (by omega)
  unfold wrote at hl hw ⊢
  simp only at hl hw ⊢
  generalize wr s b (parts b.length) (parts b.length) 0 t = W at *
  by_cases hW : W.2 = true
  · rw [if_pos hW] at hl hw ⊢
    by_cases h0 : W.1.left = 0
    · rw [if_pos h0] at hw
      cases hw
    · rw [if_neg h0] at hl ⊢
      simp only at hl ⊢
      have hwc : ∀ x ∈ W.1.cache, ∃ i, i < parts b.length ∧ x = (((s.at (s.tail + i) : Nat) : Int), s.sector b (parts b.length) i) := fun x hx => by
        rcases w2 x hx with h1 | ⟨i, -, h2, h3⟩
        · rw [h.cache] at h1; cases h1
        · exact ⟨i, by omega, h3⟩
      have hrd : ∀ n, rdS W.1.flush s n = Ta.last W.1.cache ((s.at n : Nat) : Int) (t.read nul ((s.at n : Nat) : Int)) := fun n => by
        show W.1.flush.read nul _ = _
        rw [Ta.Tray.flush_read, Ta.Tray.read_is]
        have hz : W.1.was nul ((s.at n : Nat) : Int) = t.read nul ((s.at n : Nat) : Int) := by
          unfold Ta.Tray.was Ta.Tray.read
          rw [w1, h.cache, List.append_nil]
        exact congrArg _ hz
      have hov : Over (rdS t s) (rdS W.1.flush s) s.count s.tail s.epoch b := fun n => by
        rw [hrd n]
        exact rdS_over (t := t) hwc n
      have hrec : Rec (rdS W.1.flush s) s.tail s.epoch b := fun k hk => by
        show W.1.flush.read nul _ = _
        rw [Ta.Tray.flush_read]
        exact w3 hW k (Nat.zero_le _) (by omega)
      obtain ⟨i1, i2⟩ := h.inv.appended h.calm hb hf hov hrec hl
      exact ⟨by unfold Ta.Tray.flush; rw [if_neg h0], h.dead, i1, i2, h.small⟩
  · rw [if_neg hW] at hw
    exact absurd hw hW
/-- An append that a refused step ends. -/
theorem Live.stops (h : Live t s r) (hb : b.length ≤ 60000) (hf : s.tail + parts b.length ≤ s.head + s.count) (hw : (wrote s b (parts b.length) t).2 = false) :
    Torn (wrote s b (parts b.length) t).1 { s with dead := true } r b := by
  obtain ⟨w1, w2⟩ := wr_writes (s := s) (b := b) (o := parts b.length) (parts b.length) 0 t
  have hT : ∃ T : Tray (List UInt8), (wrote s b (parts b.length) t).1 = T ∧ T.kept = t.kept ∧ ∀ x ∈ T.cache, ∃ i, i < parts b.length ∧ x = (((s.at (s.tail + i) : Nat) : Int), s.sector b (parts b.length) i) := by
    have hwc : ∀ x ∈ (wr s b (parts b.length) (parts b.length) 0 t).1.cache, ∃ i, i < parts b.length ∧ x = (((s.at (s.tail + i) : Nat) : Int), s.sector b (parts b.length) i) := fun x hx => by
      rcases w2 x hx with h1 | ⟨i, -, h2, h3⟩
      · rw [h.cache] at h1; cases h1
      · exact ⟨i, by omega, h3⟩
    unfold wrote at hw ⊢
    simp only at hw ⊢
    generalize wr s b (parts b.length) (parts b.length) 0 t = W at *
    by_cases hW : W.2 = true
    · rw [if_pos hW] at hw ⊢
      by_cases h0 : W.1.left = 0
      · rw [if_pos h0]
        exact ⟨_, rfl, w1, hwc⟩
      · rw [if_neg h0] at hw
        cases hw
    · rw [if_neg hW]
      exact ⟨_, rfl, w1, hwc⟩
  obtain ⟨T, e1, e2, e3⟩ := hT
  rw [e1]
  refine ⟨⟨rdS t s, h.inv, h.calm, fun ch n => ?_⟩, hb, hf, h.small⟩
  have hz : T.was nul ((s.at n : Nat) : Int) = t.read nul ((s.at n : Nat) : Int) := by
    unfold Ta.Tray.was Ta.Tray.read
    rw [e2, h.cache, List.append_nil]
  have := rdS_over (t := t) (s := s) (b := b) (l := Ta.pick T.cache ch) (fun x hx => e3 x (Ta.pick_mem hx)) n
  show (T.lose ch).read nul ((s.at n : Nat) : Int) = _ ∨ ∃ k, k < parts b.length ∧ n % s.count = (s.tail + k) % s.count ∧ (T.lose ch).read nul ((s.at n : Nat) : Int) = _
  rw [Ta.Tray.read_lose, hz]
  exact this
theorem Live.lost (h : Live t s r) (ch : List Bool) (n : Nat) : rdS (t.lose ch) s n = rdS t s n := by
  show (t.lose ch).read nul _ = t.read nul _
  have e : Ta.pick ([] : List (Int × List UInt8)) ch = [] := by cases ch <;> rfl
  rw [Ta.Tray.read_lose, Ta.Tray.read_is, h.cache, e]
theorem Live.cut (h : Live t s r) (hfar : s.tail + s.count ≤ 140737488355328) : Live t { s with head := s.tail } [] :=
  ⟨h.cache, h.dead, h.inv.cut hfar, h.calm, h.small⟩
/-- Opened again in the next epoch, nothing having been on its way. -/
theorem Live.again (h : Live t s r) (hE : s.epoch + 1 ≤ 4294967295) {rd : Nat → List UInt8} (hr : ∀ n, rd n = rdS t s n) :
    find rd (s.head + s.count) (s.epoch + 1) s.count s.head 0 = (r.map Prod.fst, s.tail) ∧ Inv rd s.count s.head s.tail (s.epoch + 1) r ∧ Calm rd s.tail (s.epoch + 1) := by
  obtain rfl : rd = rdS t s := funext hr
  have hi := h.inv
  have hlen := hi.stands.len
  have hfar : s.tail ≤ 140737488355328 := Nat.le_trans hi.room hi.far
  have hno : ∀ e o, 0 < o → o < 65536 → e < s.epoch + 1 → ¬ All (rdS t s) s.tail e o := fun e o h1 h2 h3 ha => by
    by_cases he : e = s.epoch
    · subst he
      have := h.calm _ _ _ _ _ ((ha 0 h1).sct (by omega) (by omega) (by omega) h2 (hi.len _))
      omega
    · exact hi.old e o h1 h2 (by omega) ha
  refine ⟨?_, ⟨hi.len, hi.stands, by have := hi.last; omega, hi.room, fun k => (hi.origin k).mono (Nat.le_refl _) (by omega), hno, by omega, hi.far⟩, hi.calm (tail' := s.tail) hE hi.origin⟩
  rw [find_stands hi.stands hi.room (by have := hi.last; omega) (by omega) (by have := hi.room; omega), find_none (rec_none fun ⟨g1, g2, g3, g4, _⟩ => hno _ _ g1 (ofO_lt (hi.len s.tail)) g3 g4)]
  simp
end
end Sp
end Go.Proofs.Ytdodmjcbjknneaa
