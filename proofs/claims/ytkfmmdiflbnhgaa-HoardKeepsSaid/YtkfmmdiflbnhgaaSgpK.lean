/-
  Layer 13, pure: what is found, behind appends, cuts and losses of power.
  Layer 13, pure: what an append makes of a tray, told by numbers.
  Layer 13's statements: lists of records that go through appends; what becomes of a spool, act by act.
-/
import Derived.Test.YtkfmmdiflbnhgaaSgpE
import Derived.Test.YtkfmmdiflbnhgaaSgpF
namespace Go.Proofs.Ytkfmmdiflbnhgaa
set_option maxRecDepth 100000
open Ta (nul Tray)
namespace Sp
/-! ### what a sector is -/
/-- A sector of an epoch, a number, which of how many, its own bytes; all as they may be. -/
structure Sct (b : List UInt8) (e m j o : Nat) (own : List UInt8) : Prop where
  is : b = secB e m j o own
  he : e < 4294967296
  hm : m < 281474976710656
  hj : j < 65536
  ho : o < 65536
  hl : own.length ≤ 108
theorem Sct.inj {b : List UInt8} {e m j o e' m' j' o' : Nat} {own own' : List UInt8} (h : Sct b e m j o own) (h' : Sct b e' m' j' o' own') : e = e' ∧ m = m' ∧ j = j' ∧ o = o' ∧ own = own' := by
  have h1 := h.is
  have h2 := h'.is
  refine ⟨?_, ?_, ?_, ?_, ?_⟩
  · rw [← epO_sec (n := m) (p := j) (o := o) (own := own) h.he, ← h1, h2, epO_sec h'.he]
  · rw [← nuO_sec (e := e) (p := j) (o := o) (own := own) h.hm, ← h1, h2, nuO_sec h'.hm]
  · rw [← paO_sec (e := e) (n := m) (o := o) (own := own) h.hj, ← h1, h2, paO_sec h'.hj]
  · rw [← ofO_sec (e := e) (n := m) (p := j) (own := own) h.ho, ← h1, h2, ofO_sec h'.ho]
  · rw [← owO_sec (e := e) (n := m) (p := j) (o := o) h.hl, ← h1, h2, owO_sec h'.hl]
theorem sec_first (e m j o : Nat) (own : List UInt8) : (secB e m j o own).head? = some 83 := by
  obtain ⟨r, hr⟩ := sec_split (e := e) (n := m) (p := j) (o := o) (own := own)
  rw [hr]
  rfl
theorem Sct.ne_nul {b : List UInt8} {e m j o : Nat} {own : List UInt8} (h : Sct b e m j o own) : b ≠ nul := fun hb => by
  have h1 := sec_first e m j o own
  rw [← h.is, hb] at h1
  have h2 : nul.head? = some 0 := rfl
  rw [h2] at h1
  cases h1
theorem Good.sct {b : List UInt8} {e n k o : Nat} (h : Good b e n k o) (he : e < 4294967296) (hn : n < 281474976710656) (hk : k < 65536) (ho : o < 65536) (hb : b.length = 128) : Sct b e n k o (owO b) :=
  ⟨h.2.2, he, hn, hk, ho, by rw [owO_len hb h.1]; exact h.1⟩
/-- Nothing, or a sector of a record that began at the tail or ahead of it, of an epoch up to E. -/
def Origin (tail E : Nat) (b : List UInt8) : Prop := b = nul ∨ ∃ e m j o own, Sct b e m j o own ∧ j ≤ m ∧ m ≤ tail + j ∧ e ≤ E
theorem Origin.mono {tail E tail' E' : Nat} {b : List UInt8} (h : Origin tail E b) (ht : tail ≤ tail') (hE : E ≤ E') : Origin tail' E' b := by
  rcases h with h | ⟨e, m, j, o, own, h1, h2, h3, h4⟩
  · exact .inl h
  · exact .inr ⟨e, m, j, o, own, h1, h2, by omega, by omega⟩

/-! ### a record that stands -/
theorem parts_pos (n : Nat) : 1 ≤ parts n := by unfold parts; omega
theorem parts_le {n : Nat} (h : n ≤ 60000) : parts n ≤ 556 := by unfold parts; omega
theorem parts_cover (n : Nat) : n ≤ parts n * 108 := by unfold parts; omega
theorem chunk_full {b : List UInt8} {k : Nat} (h : k + 1 < parts b.length) : (chunk b k).length = 108 := by
  rw [chunk_len]
  unfold parts at h
  omega
theorem chunks (b : List UInt8) : ∀ k, (List.range k).flatMap (chunk b) = b.take (k * 108)
  | 0 => by simp
  | k + 1 => by
    rw [List.range_succ, List.flatMap_append, chunks b k]
    simp only [List.flatMap_cons, List.flatMap_nil, List.append_nil, chunk]
    rw [show (k + 1) * 108 = k * 108 + 108 by omega, List.take_add]
/-- The record b, of epoch e, stands at n. -/
def Rec (rd : Nat → List UInt8) (n e : Nat) (b : List UInt8) : Prop := ∀ k, k < parts b.length → rd (n + k) = secB e (n + k) k (parts b.length) (chunk b k)
section
variable {rd : Nat → List UInt8} {n e : Nat} {b : List UInt8}
theorem Rec.sct (h : Rec rd n e b) (hb : b.length ≤ 60000) (he : e < 4294967296) (hn : n ≤ 140737488420864) {k : Nat} (hk : k < parts b.length) : Sct (rd (n + k)) e (n + k) k (parts b.length) (chunk b k) := by
  have := parts_le hb
  exact ⟨h k hk, he, by omega, by omega, by omega, chunk_le b k⟩
theorem Rec.all (h : Rec rd n e b) : All rd n e (parts b.length) := fun k hk => by
  rw [h k hk]
  exact good_sec (chunk_le b k) fun h => chunk_full h
theorem Rec.tells (h : Rec rd n e b) (hb : b.length ≤ 60000) (he : e < 4294967296) : epO (rd n) = e ∧ ofO (rd n) = parts b.length := by
  have h0 := h 0 (parts_pos _)
  have := parts_le hb
  rw [Nat.add_zero] at h0
  rw [h0]
  exact ⟨epO_sec he, ofO_sec (by omega)⟩
theorem Rec.bytes (h : Rec rd n e b) : bytes rd n (parts b.length) = b := by
  have e1 : Sp.bytes rd n (parts b.length) = (List.range (parts b.length)).flatMap (chunk b) := by
    unfold Sp.bytes
    simp only [List.flatMap]
    congr 1
    refine List.map_congr_left fun k hk => ?_
    rw [h k (List.mem_range.1 hk), owO_sec (chunk_le b k)]
  rw [e1, chunks, List.take_of_length_le (parts_cover _)]
theorem Rec.found (h : Rec rd n e b) (hb : b.length ≤ 60000) (he : e < 4294967296) {least E : Nat} (hl : least ≤ e) (hE : e < E) : rec rd n least E = some (b, e, parts b.length) := by
  obtain ⟨h1, h2⟩ := h.tells hb he
  rw [rec_some ⟨by rw [h2]; exact parts_pos _, by rw [h1]; exact hl, by rw [h1]; exact hE, by rw [h1, h2]; exact h.all, by rw [h2, h.bytes]; exact hb⟩, h1, h2, h.bytes]
end

/-! ### records one behind the other -/
def Stands (rd : Nat → List UInt8) : Nat → Nat → List (List UInt8 × Nat) → Nat → Prop
  | n, _, [], n' => n = n'
  | n, least, (b, e) :: r, n' => Rec rd n e b ∧ b.length ≤ 60000 ∧ least ≤ e ∧ Stands rd (n + parts b.length) e r n'
/-- The greatest epoch of records, which don't fall. -/
def lastE : Nat → List (List UInt8 × Nat) → Nat
  | least, [] => least
  | _, (_, e) :: r => lastE e r
theorem Stands.len {rd : Nat → List UInt8} : ∀ {r : List (List UInt8 × Nat)} {n least n' : Nat}, Stands rd n least r n' → n + r.length ≤ n'
  | [], n, least, n', h => by rw [show n = n' from h]; exact Nat.le_refl _
  | (b, e) :: r, n, least, n', h => by
    have h1 := Stands.len h.2.2.2
    have h2 := parts_pos b.length
    simp only [List.length_cons]
    omega
theorem Stands.least {rd : Nat → List UInt8} : ∀ {r : List (List UInt8 × Nat)} {n least n' : Nat}, Stands rd n least r n' → least ≤ lastE least r
  | [], _, _, _, _ => Nat.le_refl _
  | (_, _) :: _, _, _, _, h => Nat.le_trans h.2.2.1 (Stands.least h.2.2.2)
/-- A list of records and one more. -/
theorem Stands.snoc {rd : Nat → List UInt8} {b : List UInt8} {e : Nat} : ∀ {r : List (List UInt8 × Nat)} {n least n' : Nat}, Stands rd n least r n' → Rec rd n' e b → b.length ≤ 60000 → lastE least r ≤ e → Stands rd n least (r ++ [(b, e)]) (n' + parts b.length)
  | [], n, least, n', h, h1, h2, h3 => by
    obtain rfl : n = n' := h
    exact ⟨h1, h2, h3, rfl⟩
  | (_, _) :: r, n, least, n', h, h1, h2, h3 => ⟨h.1, h.2.1, h.2.2.1, Stands.snoc h.2.2.2 h1 h2 h3⟩
theorem lastE_snoc (b : List UInt8) (e : Nat) : ∀ (r : List (List UInt8 × Nat)) (least : Nat), lastE least (r ++ [(b, e)]) = e
  | [], _ => rfl
  | (_, _) :: r, _ => lastE_snoc b e r _
/-- Whatever holds the same there. -/
theorem Stands.same {rd rd' : Nat → List UInt8} : ∀ {r : List (List UInt8 × Nat)} {n least n' : Nat}, Stands rd n least r n' → (∀ k, n ≤ k → k < n' → rd' k = rd k) → Stands rd' n least r n'
  | [], _, _, _, h, _ => h
  | (b, e) :: r, n, least, n', h, hs => by
    have h1 := Stands.len h.2.2.2
    have h2 := parts_pos b.length
    refine ⟨fun k hk => ?_, h.2.1, h.2.2.1, Stands.same h.2.2.2 fun k h3 h4 => hs k (by omega) h4⟩
    rw [hs (n + k) (by omega) (by omega)]
    exact h.1 k hk
/-- What is found: these, and what is found behind them. -/
theorem find_stands {rd : Nat → List UInt8} {stop E : Nat} : ∀ {r : List (List UInt8 × Nat)} {n least n' f : Nat}, Stands rd n least r n' → n' ≤ stop → lastE least r < E → E ≤ 4294967296 → r.length ≤ f →
    find rd stop E f n least = (r.map Prod.fst ++ (find rd stop E (f - r.length) n' (lastE least r)).1, (find rd stop E (f - r.length) n' (lastE least r)).2)
  | [], n, least, n', f, h, _, _, _, _ => by
    obtain rfl : n = n' := h
    rfl
  | (b, e) :: r, n, least, n', f, h, hs, hE, hE2, hf => by
    have h1 := Stands.len h.2.2.2
    have h2 := parts_pos b.length
    have h3 := Stands.least h.2.2.2
    have hE' : lastE e r < E := hE
    obtain ⟨f, rfl⟩ : ∃ f', f = f' + 1 := ⟨f - 1, by simp at hf; omega⟩
    rw [find_step (by omega) (h.1.found h.2.1 (by omega) h.2.2.1 (by omega)), find_stands h.2.2.2 hs hE' hE2 (by simpa using hf)]
    simp [lastE]
/-! ### what may be, behind any loss of power -/
/-- A ring of c sectors, told by numbers: r stands from the head to the tail, the epoch is E; nothing of an elder epoch is whole at the tail, and all sectors come of records that began at the tail, or ahead. -/
structure Inv (rd : Nat → List UInt8) (c head tail E : Nat) (r : List (List UInt8 × Nat)) : Prop where
  len : ∀ k, (rd k).length = 128
  stands : Stands rd head 0 r tail
  last : lastE 0 r ≤ E
  room : tail ≤ head + c
  origin : ∀ k, Origin tail E (rd k)
  old : ∀ e o, 0 < o → o < 65536 → e < E → ¬ All rd tail e o
  epoch : E < 4294967296
  far : head + c ≤ 140737488355328
/-- .. and nothing of this epoch is at the tail or behind. -/
def Calm (rd : Nat → List UInt8) (tail E : Nat) : Prop := ∀ k m j o own, Sct (rd k) E m j o own → m < tail
/-- Some sectors of the record b at the tail, of the epoch E, are written; those that aren't are as they were. -/
def Over (rd rd' : Nat → List UInt8) (c tail E : Nat) (b : List UInt8) : Prop :=
  ∀ n, rd' n = rd n ∨ ∃ k, k < parts b.length ∧ n % c = (tail + k) % c ∧ rd' n = secB E (tail + k) k (parts b.length) (chunk b k)
section
variable {rd rd' : Nat → List UInt8} {c head tail E : Nat} {r : List (List UInt8 × Nat)} {b : List UInt8}
theorem new_sct (hE : E < 4294967296) (hb : b.length ≤ 60000) (ht : tail ≤ 140737488355328) {k : Nat} (hk : k < parts b.length) : Sct (secB E (tail + k) k (parts b.length) (chunk b k)) E (tail + k) k (parts b.length) (chunk b k) := by
  have := parts_le hb
  exact ⟨rfl, hE, by omega, by omega, by omega, chunk_le b k⟩
/-- No record of whatever epoch begins behind the tail. -/
theorem Inv.behind (h : Inv rd c head tail E r) {n : Nat} (hn : tail < n) (hn2 : n < 281474976710656) {e o : Nat} (ho : 0 < o) (ho2 : o < 65536) (he : e < 4294967296) : ¬ All rd n e o := fun ha => by
  have hg := (ha 0 ho).sct he hn2 (by omega) ho2 (h.len _)
  rcases h.origin (n + 0) with h1 | ⟨e', m', j', o', own', h1, h2, h3, h4⟩
  · exact hg.ne_nul h1
  · obtain ⟨a1, a2, a3, a4, a5⟩ := hg.inj h1
    omega
theorem mod_apart {c a x y : Nat} (hx : a ≤ x) (hy : a ≤ y) (hx2 : x < a + c) (hy2 : y < a + c) (h : x % c = y % c) : x = y := by
  have h1 := Nat.div_add_mod x c
  have h2 := Nat.div_add_mod y c
  have hc : 0 < c := by omega
  rcases Nat.lt_trichotomy (x / c) (y / c) with h3 | h3 | h3
  · have h4 : c * (x / c) + c ≤ c * (y / c) := by rw [← Nat.mul_succ]; exact Nat.mul_le_mul_left c h3
    omega
  · rw [h3] at h1; omega
  · have h4 : c * (y / c) + c ≤ c * (x / c) := by rw [← Nat.mul_succ]; exact Nat.mul_le_mul_left c h3
    omega
/-- Where a record fits in, what stands isn't touched. -/
theorem Over.keeps (ho : Over rd rd' c tail E b) (hf : tail + parts b.length ≤ head + c) {n : Nat} (h1 : head ≤ n) (h2 : n < tail) : rd' n = rd n := by
  rcases ho n with h | ⟨k, hk, hm, -⟩
  · exact h
  · have := mod_apart (a := head) (c := c) h1 (by omega) (by omega) (by omega) hm
    omega
/-- A sector of an elder epoch was there. -/
theorem Over.elder (ho : Over rd rd' c tail E b) (hE : E < 4294967296) (hb : b.length ≤ 60000) (ht : tail ≤ 140737488355328) {n e m j o : Nat} {own : List UInt8} (h : Sct (rd' n) e m j o own) (he : e ≠ E) : rd' n = rd n := by
  rcases ho n with h1 | ⟨k, hk, -, h2⟩
  · exact h1
  · rw [h2] at h
    exact absurd (h.inj (new_sct hE hb ht hk)).1 he
/-- Behind a loss of power, or none, where a record of epoch E was being written at the tail: these records are found, or these and that one; and so it goes on in the next epoch. -/
theorem Inv.opened (h : Inv rd c head tail E r) (hc : Calm rd tail E) (hb : b.length ≤ 60000) (hf : tail + parts b.length ≤ head + c) (ho : Over rd rd' c tail E b) (hl : ∀ k, (rd' k).length = 128) (hE : E + 1 ≤ 4294967295) (_hc2 : c ≤ 4096) (f : Nat) (hf2 : c ≤ f) :
    (find rd' (head + c) (E + 1) f head 0 = (r.map Prod.fst, tail) ∧ Inv rd' c head tail (E + 1) r) ∨ (find rd' (head + c) (E + 1) f head 0 = ((r ++ [(b, E)]).map Prod.fst, tail + parts b.length) ∧ Inv rd' c head (tail + parts b.length) (E + 1) (r ++ [(b, E)])) := by
  have hpp := parts_pos b.length
  have hp556 := parts_le hb
  have hst : Stands rd' head 0 r tail := h.stands.same fun k h1 h2 => ho.keeps hf h1 h2
  have hlen := h.stands.len
  have hfar : tail ≤ 140737488355328 := Nat.le_trans h.room h.far
  have hor : ∀ k, Origin tail E (rd' k) := fun k => by
    rcases ho k with h1 | ⟨i, hi, -, h2⟩
    · rw [h1]; exact h.origin k
    · exact .inr ⟨E, tail + i, i, parts b.length, chunk b i, h2 ▸ new_sct h.epoch hb hfar hi, by omega, by omega, Nat.le_refl _⟩
  -- an elder record at the tail: none
  have hold : ∀ e o, 0 < o → o < 65536 → e < E → ¬ All rd' tail e o := fun e o h1 h2 h3 ha => h.old e o h1 h2 h3 fun k hk => by
    have hs := (ha k hk).sct (by omega) (by omega) (by omega) h2 (hl _)
    rw [← ho.elder h.epoch hb hfar hs (by omega)]
    exact ha k hk
  -- one of this epoch at the tail: this one
  have hthis : ∀ o, 0 < o → o < 65536 → All rd' tail E o → Rec rd' tail E b := fun o h1 h2 ha => by
    have key : ∀ k, k < o → ∃ i, i < parts b.length ∧ rd' (tail + k) = secB E (tail + i) i (parts b.length) (chunk b i) := fun k hk => by
      rcases ho (tail + k) with h3 | ⟨i, hi, -, h4⟩
      · have hs := (ha k hk).sct h.epoch (by omega) (by omega) h2 (hl _)
        rw [h3] at hs
        have := hc _ _ _ _ _ hs
        omega
      · exact ⟨i, hi, h4⟩
    have hoo : o = parts b.length := by
      obtain ⟨i, hi, h4⟩ := key 0 h1
      have hs := (ha 0 h1).sct h.epoch (by omega) (by omega) h2 (hl _)
      rw [h4] at hs
      exact (hs.inj (new_sct h.epoch hb hfar hi)).2.2.2.1
    intro k hk
    obtain ⟨i, hi, h4⟩ := key k (by omega)
    have hs := (ha k (by omega)).sct h.epoch (by omega) (by omega) h2 (hl _)
    rw [h4] at hs
    have hik := (hs.inj (new_sct h.epoch hb hfar hi)).2.1
    rw [h4, show i = k by omega]
  have hfs := find_stands (E := E + 1) hst h.room (by have := h.last; omega) (by omega) (show r.length ≤ f by have := h.room; omega)
  by_cases hw : Rec rd' tail E b
  · refine .inr ⟨?_, ?_⟩
    · have hroom := h.room
      obtain ⟨f', hf'⟩ : ∃ f', f - r.length = f' + 1 := ⟨f - r.length - 1, by omega⟩
      rw [hfs, hf', find_step (by omega) (hw.found hb h.epoch h.last (by omega))]
      have hend : find rd' (head + c) (E + 1) f' (tail + parts b.length) E = ([], tail + parts b.length) := by
        refine find_none (rec_none fun ⟨g1, g2, g3, g4, _⟩ => ?_)
        have ho2 := ofO_lt (hl (tail + parts b.length))
        have hs := (g4 0 g1).sct (by omega) (by omega) (by omega) ho2 (hl _)
        rcases hor (tail + parts b.length + 0) with h1 | ⟨e', m', j', o', own', h1, h2, h3, h4⟩
        · exact hs.ne_nul h1
        · obtain ⟨a1, a2, a3, a4, a5⟩ := hs.inj h1
          omega
      rw [hend]
      simp
    · exact ⟨hl, hst.snoc hw hb h.last, by rw [lastE_snoc]; omega, hf, fun k => (hor k).mono (by omega) (by omega), fun e o h1 h2 h3 ha => by
        have hs := (ha 0 h1).sct (by omega) (by omega) (by omega) h2 (hl _)
        rcases hor (tail + parts b.length + 0) with g1 | ⟨e', m', j', o', own', g1, g2, g3, g4⟩
        · exact hs.ne_nul g1
        · obtain ⟨a1, a2, a3, a4, a5⟩ := hs.inj g1
          omega, by omega, h.far⟩
  · have hno : ∀ e o, 0 < o → o < 65536 → e < E + 1 → ¬ All rd' tail e o := fun e o h1 h2 h3 ha => by
      by_cases he : e = E
      · subst he
        exact hw (hthis o h1 h2 ha)
      · exact hold e o h1 h2 (by omega) ha
    refine .inl ⟨?_, ⟨hl, hst, by have := h.last; omega, h.room, fun k => (hor k).mono (Nat.le_refl _) (by omega), hno, by omega, h.far⟩⟩
    rw [hfs, find_none (rec_none fun ⟨g1, g2, g3, g4, _⟩ => hno _ _ g1 (ofO_lt (hl tail)) g3 g4)]
    simp
/-- In the next epoch nothing of it is there yet. -/
theorem Inv.calm (_h : Inv rd c head tail E r) {tail' : Nat} (_hE : E + 1 ≤ 4294967295) (ho : ∀ k, Origin tail' E (rd k)) : Calm rd tail' (E + 1) := fun k m j o own hs => by
  rcases ho k with g1 | ⟨e', m', j', o', own', g1, g2, g3, g4⟩
  · exact absurd g1 hs.ne_nul
  · have := (hs.inj g1).1
    omega
/-- A record that was appended with OK. -/
theorem Inv.appended (h : Inv rd c head tail E r) (hc : Calm rd tail E) (hb : b.length ≤ 60000) (hf : tail + parts b.length ≤ head + c) (ho : Over rd rd' c tail E b) (hw : Rec rd' tail E b) (hl : ∀ k, (rd' k).length = 128) :
    Inv rd' c head (tail + parts b.length) E (r ++ [(b, E)]) ∧ Calm rd' (tail + parts b.length) E := by
  have hpp := parts_pos b.length
  have hfar : tail ≤ 140737488355328 := Nat.le_trans h.room h.far
  have hor : ∀ k, Origin tail E (rd' k) := fun k => by
    rcases ho k with h1 | ⟨i, hi, -, h2⟩
    · rw [h1]; exact h.origin k
    · exact .inr ⟨E, tail + i, i, parts b.length, chunk b i, h2 ▸ new_sct h.epoch hb hfar hi, by omega, by omega, Nat.le_refl _⟩
  have hp556 := parts_le hb
  refine ⟨⟨hl, (h.stands.same fun k h1 h2 => ho.keeps hf h1 h2).snoc hw hb h.last, by rw [lastE_snoc]; exact Nat.le_refl _, hf, fun k => (hor k).mono (by omega) (Nat.le_refl _), fun e o h1 h2 h3 ha => ?_, h.epoch, h.far⟩, fun k m j o own hs => ?_⟩
  · have hep := h.epoch
    have hs := (ha 0 h1).sct (by omega) (by omega) (by omega) h2 (hl _)
    rcases hor (tail + parts b.length + 0) with g1 | ⟨e', m', j', o', own', g1, g2, g3, g4⟩
    · exact hs.ne_nul g1
    · obtain ⟨a1, a2, a3, a4, a5⟩ := hs.inj g1
      omega
  · rcases ho k with h1 | ⟨i, hi, -, h2⟩
    · rw [h1] at hs
      have := hc _ _ _ _ _ hs
      omega
    · rw [h2] at hs
      have := (hs.inj (new_sct h.epoch hb hfar hi)).2.1
      omega
/-- A cut. -/
theorem Inv.cut (h : Inv rd c head tail E r) (hfar : tail + c ≤ 140737488355328) : Inv rd c tail tail E [] :=
  ⟨h.len, rfl, Nat.zero_le _, Nat.le_add_right _ _, h.origin, h.old, h.epoch, hfar⟩
theorem inv_fresh (c : Nat) (hc : c ≤ 4096) {rd : Nat → List UInt8} (hr : ∀ k, rd k = nul) : Inv rd c 0 0 1 [] ∧ Calm rd 0 1 := by
  refine ⟨⟨fun k => by rw [hr]; rfl, rfl, Nat.zero_le _, Nat.zero_le _, fun k => .inl (hr k), fun e o h1 h2 h3 ha => ?_, by omega, by omega⟩, fun k m j o own hs => absurd (hr k) hs.ne_nul⟩
  exact ((ha 0 h1).sct (by omega) (by omega) (by omega) h2 (by rw [hr]; rfl)).ne_nul (hr _)
end
end Sp
end Go.Proofs.Ytkfmmdiflbnhgaa

namespace Go.Proofs.Ytkfmmdiflbnhgaa
set_option maxRecDepth 100000
open Ta (nul Tray)
namespace Sp
section
variable {s : S} {b : List UInt8} {o : Nat}
theorem at_inj {x y : Nat} (h : s.at x = s.at y) : x % s.count = y % s.count := by
  unfold S.at at h
  omega
/-- What lies in the cache behind the writes. -/
theorem wr_writes : ∀ (f k : Nat) (t : Tray (List UInt8)), (wr s b o f k t).1.kept = t.kept ∧ ∀ x ∈ (wr s b o f k t).1.cache, x ∈ t.cache ∨ ∃ i, k ≤ i ∧ i < k + f ∧ x = (((s.at (s.tail + i) : Nat) : Int), s.sector b o i)
  | 0, k, t => ⟨rfl, fun x hx => .inl hx⟩
  | f + 1, k, t => by
    by_cases h : t.left = 0
    · rw [wr_stop h]
      exact ⟨rfl, fun x hx => .inl hx⟩
    · rw [wr_go h]
      obtain ⟨h1, h2⟩ := wr_writes f (k + 1) (t.put (s.at (s.tail + k) : Nat) (s.sector b o k))
      refine ⟨by rw [h1]; unfold Tray.put; rw [if_neg h]; rfl, fun x hx => ?_⟩
      rcases h2 x hx with h3 | ⟨i, h3, h4, h5⟩
      · unfold Tray.put at h3
        rw [if_neg h] at h3
        rcases List.mem_append.1 h3 with h3 | h3
        · exact .inl h3
        · rw [List.mem_singleton] at h3
          exact .inr ⟨k, Nat.le_refl _, by omega, h3⟩
      · exact .inr ⟨i, by omega, by omega, h5⟩
/-- What they don't touch. -/
theorem wr_read : ∀ (f k : Nat) (t : Tray (List UInt8)) (a : Int), (∀ i, k ≤ i → i < k + f → ((s.at (s.tail + i) : Nat) : Int) ≠ a) → (wr s b o f k t).1.read nul a = t.read nul a
  | 0, k, t, a, _ => rfl
  | f + 1, k, t, a, h => by
    by_cases h0 : t.left = 0
    · rw [wr_stop h0]
      rfl
    · rw [wr_go h0, wr_read f (k + 1) _ a fun i h1 h2 => h i (by omega) (by omega), Ta.Tray.put_read nul h0, if_neg (h k (Nat.le_refl _) (by omega))]
/-- All of them, if none was refused. -/
theorem wr_rec (hc : 0 < s.count) : ∀ (f k : Nat) (t : Tray (List UInt8)), f ≤ s.count → (wr s b o f k t).2 = true → ∀ i, k ≤ i → i < k + f → (wr s b o f k t).1.read nul ((s.at (s.tail + i) : Nat) : Int) = s.sector b o i
  | 0, k, t, _, _, i, h1, h2 => by omega
  | f + 1, k, t, hf, hw, i, h1, h2 => by
    by_cases h0 : t.left = 0
    · rw [wr_stop h0] at hw
      cases hw
    · rw [wr_go h0] at hw ⊢
      by_cases hi : i = k
      · subst hi
        rw [wr_read f (i + 1) _ _ fun j h3 h4 h5 => ?_, Ta.Tray.put_read nul h0, if_pos rfl]
        have h6 := at_inj (s := s) (x := s.tail + j) (y := s.tail + i) (by omega)
        have h7 := mod_apart (c := s.count) (a := s.tail + i) (x := s.tail + j) (y := s.tail + i) (by omega) (Nat.le_refl _) (by omega) (by omega) h6
        omega
      · exact wr_rec hc f (k + 1) _ (by omega) hw i (by omega) (by omega)
end
/-- Alive: all is flushed; the records of r stand from the head to the tail. -/
structure Live (t : Tray (List UInt8)) (s : S) (r : List (List UInt8 × Nat)) : Prop where
  cache : t.cache = []
  dead : s.dead = false
  inv : Inv (rdS t s) s.count s.head s.tail s.epoch r
  calm : Calm (rdS t s) s.tail s.epoch
  small : 0 < s.count ∧ s.count ≤ 4096
/-- A record was being appended, when the power went. -/
structure Torn (t : Tray (List UInt8)) (s : S) (r : List (List UInt8 × Nat)) (b : List UInt8) : Prop where
  was : ∃ rd, Inv rd s.count s.head s.tail s.epoch r ∧ Calm rd s.tail s.epoch ∧ ∀ ch, Over rd (rdS (t.lose ch) s) s.count s.tail s.epoch b
  len : b.length ≤ 60000
  fits : s.tail + parts b.length ≤ s.head + s.count
  small : 0 < s.count ∧ s.count ≤ 4096
theorem rdS_over {t : Tray (List UInt8)} {s : S} {b : List UInt8} {l : List (Int × List UInt8)} (hl : ∀ x ∈ l, ∃ i, i < parts b.length ∧ x = (((s.at (s.tail + i) : Nat) : Int), s.sector b (parts b.length) i)) (n : Nat) :
    Ta.last l ((s.at n : Nat) : Int) (t.read nul ((s.at n : Nat) : Int)) = rdS t s n ∨ ∃ k, k < parts b.length ∧ n % s.count = (s.tail + k) % s.count ∧ Ta.last l ((s.at n : Nat) : Int) (t.read nul ((s.at n : Nat) : Int)) = secB s.epoch (s.tail + k) k (parts b.length) (chunk b k) := by
  rcases Ta.last_or l ((s.at n : Nat) : Int) (t.read nul ((s.at n : Nat) : Int)) with h | ⟨x, hx, h1, h2⟩
  · exact .inl h
  · obtain ⟨i, hi, rfl⟩ := hl x hx
    refine .inr ⟨i, hi, ?_, ?_⟩
    · exact (at_inj (s := s) (x := s.tail + i) (y := n) (by simp only at h1; omega)).symm
    · rw [← h2]
      rfl
section
variable {t : Tray (List UInt8)} {s : S} {r : List (List UInt8 × Nat)} {b : List UInt8}
/-- An append that comes out OK. -/
theorem Live.goes (h : Live t s r) (hb : b.length ≤ 60000) (hl : ∀ k, (rdS (wrote s b (parts b.length) t).1 s k).length = 128) (hf : s.tail + parts b.length ≤ s.head + s.count) (hw : (wrote s b (parts b.length) t).2 = true) :
    Live (wrote s b (parts b.length) t).1 { s with tail := s.tail + parts b.length } (r ++ [(b, s.epoch)]) := by
  have hroom := h.inv.stands.len
  obtain ⟨w1, w2⟩ := wr_writes (s := s) (b := b) (o := parts b.length) (parts b.length) 0 t
  have w3 := wr_rec (s := s) (b := b) (o := parts b.length) h.small.1 (parts b.length) 0 t (by omega)
  unfold wrote at hl hw ⊢
  simp only at hl hw ⊢
  generalize wr s b (parts b.length) (parts b.length) 0 t = W at *
  by_cases hW : W.2 = true
  · rw [if_pos hW] at hl hw ⊢
    by_cases h0 : W.1.left = 0
    · rw [if_pos h0] at hw
      cases hw
    · rw [if_neg h0] at hl ⊢
      simp only at hl ⊢
      have hwc : ∀ x ∈ W.1.cache, ∃ i, i < parts b.length ∧ x = (((s.at (s.tail + i) : Nat) : Int), s.sector b (parts b.length) i) := fun x hx => by
        rcases w2 x hx with h1 | ⟨i, -, h2, h3⟩
        · rw [h.cache] at h1; cases h1
        · exact ⟨i, by omega, h3⟩
      have hrd : ∀ n, rdS W.1.flush s n = Ta.last W.1.cache ((s.at n : Nat) : Int) (t.read nul ((s.at n : Nat) : Int)) := fun n => by
        show W.1.flush.read nul _ = _
        rw [Ta.Tray.flush_read, Ta.Tray.read_is]
        have hz : W.1.was nul ((s.at n : Nat) : Int) = t.read nul ((s.at n : Nat) : Int) := by
          unfold Ta.Tray.was Ta.Tray.read
          rw [w1, h.cache, List.append_nil]
        exact congrArg _ hz
      have hov : Over (rdS t s) (rdS W.1.flush s) s.count s.tail s.epoch b := fun n => by
        rw [hrd n]
        exact rdS_over (t := t) hwc n
      have hrec : Rec (rdS W.1.flush s) s.tail s.epoch b := fun k hk => by
        show W.1.flush.read nul _ = _
        rw [Ta.Tray.flush_read]
        exact w3 hW k (Nat.zero_le _) (by omega)
      obtain ⟨i1, i2⟩ := h.inv.appended h.calm hb hf hov hrec hl
      exact ⟨by unfold Ta.Tray.flush; rw [if_neg h0], h.dead, i1, i2, h.small⟩
  · rw [if_neg hW] at hw
    exact absurd hw hW
/-- An append that a refused step ends. -/
theorem Live.stops (h : Live t s r) (hb : b.length ≤ 60000) (hf : s.tail + parts b.length ≤ s.head + s.count) (hw : (wrote s b (parts b.length) t).2 = false) :
    Torn (wrote s b (parts b.length) t).1 { s with dead := true } r b := by
  obtain ⟨w1, w2⟩ := wr_writes (s := s) (b := b) (o := parts b.length) (parts b.length) 0 t
  have hT : ∃ T : Tray (List UInt8), (wrote s b (parts b.length) t).1 = T ∧ T.kept = t.kept ∧ ∀ x ∈ T.cache, ∃ i, i < parts b.length ∧ x = (((s.at (s.tail + i) : Nat) : Int), s.sector b (parts b.length) i) := by
    have hwc : ∀ x ∈ (wr s b (parts b.length) (parts b.length) 0 t).1.cache, ∃ i, i < parts b.length ∧ x = (((s.at (s.tail + i) : Nat) : Int), s.sector b (parts b.length) i) := fun x hx => by
      rcases w2 x hx with h1 | ⟨i, -, h2, h3⟩
      · rw [h.cache] at h1; cases h1
      · exact ⟨i, by omega, h3⟩
    unfold wrote at hw ⊢
    simp only at hw ⊢
    generalize wr s b (parts b.length) (parts b.length) 0 t = W at *
    by_cases hW : W.2 = true
    · rw [if_pos hW] at hw ⊢
      by_cases h0 : W.1.left = 0
      · rw [if_pos h0]
        exact ⟨_, rfl, w1, hwc⟩
      · rw [if_neg h0] at hw
        cases hw
    · rw [if_neg hW]
      exact ⟨_, rfl, w1, hwc⟩
  obtain ⟨T, e1, e2, e3⟩ := hT
  rw [e1]
  refine ⟨⟨rdS t s, h.inv, h.calm, fun ch n => ?_⟩, hb, hf, h.small⟩
  have hz : T.was nul ((s.at n : Nat) : Int) = t.read nul ((s.at n : Nat) : Int) := by
    unfold Ta.Tray.was Ta.Tray.read
    rw [e2, h.cache, List.append_nil]
  have := rdS_over (t := t) (s := s) (b := b) (l := Ta.pick T.cache ch) (fun x hx => e3 x (Ta.pick_mem hx)) n
  show (T.lose ch).read nul ((s.at n : Nat) : Int) = _ ∨ ∃ k, k < parts b.length ∧ n % s.count = (s.tail + k) % s.count ∧ (T.lose ch).read nul ((s.at n : Nat) : Int) = _
  rw [Ta.Tray.read_lose, hz]
  exact this
theorem Live.lost (h : Live t s r) (ch : List Bool) (n : Nat) : rdS (t.lose ch) s n = rdS t s n := by
  show (t.lose ch).read nul _ = t.read nul _
  have e : Ta.pick ([] : List (Int × List UInt8)) ch = [] := by cases ch <;> rfl
  rw [Ta.Tray.read_lose, Ta.Tray.read_is, h.cache, e]
theorem Live.cut (h : Live t s r) (hfar : s.tail + s.count ≤ 140737488355328) : Live t { s with head := s.tail } [] :=
  ⟨h.cache, h.dead, h.inv.cut hfar, h.calm, h.small⟩
/-- Opened again in the next epoch, nothing having been on its way. -/
theorem Live.again (h : Live t s r) (hE : s.epoch + 1 ≤ 4294967295) {rd : Nat → List UInt8} (hr : ∀ n, rd n = rdS t s n) :
    find rd (s.head + s.count) (s.epoch + 1) s.count s.head 0 = (r.map Prod.fst, s.tail) ∧ Inv rd s.count s.head s.tail (s.epoch + 1) r ∧ Calm rd s.tail (s.epoch + 1) := by
  obtain rfl : rd = rdS t s := funext hr
  have hi := h.inv
  have hlen := hi.stands.len
  have hfar : s.tail ≤ 140737488355328 := Nat.le_trans hi.room hi.far
  have hno : ∀ e o, 0 < o → o < 65536 → e < s.epoch + 1 → ¬ All (rdS t s) s.tail e o := fun e o h1 h2 h3 ha => by
    by_cases he : e = s.epoch
    · subst he
      have := h.calm _ _ _ _ _ ((ha 0 h1).sct (by omega) (by omega) (by omega) h2 (hi.len _))
      omega
    · exact hi.old e o h1 h2 (by omega) ha
  refine ⟨?_, ⟨hi.len, hi.stands, by have := hi.last; omega, hi.room, fun k => (hi.origin k).mono (Nat.le_refl _) (by omega), hno, by omega, hi.far⟩, hi.calm (tail' := s.tail) hE hi.origin⟩
  rw [find_stands hi.stands hi.room (by have := hi.last; omega) (by omega) (by have := hi.room; omega), find_none (rec_none fun ⟨g1, g2, g3, g4, _⟩ => hno _ _ g1 (ofO_lt (hi.len s.tail)) g3 g4)]
  simp
end
end Sp
end Go.Proofs.Ytkfmmdiflbnhgaa

namespace Go.Proofs.Ytkfmmdiflbnhgaa
set_option maxRecDepth 100000
open Go.RowKit
open Knot (Turns NewRow)
open Ta (IsBytes Stay sec nul ptr IsT Tray)
open Tr (own_turn own_below own_slice IsElem append_rows addp)
namespace Sp
section
variable {x0 x y : World} {B : Nat} {G G' : Nat → Prop} {v v2 : Value} {L M : List (List UInt8)}
/-- Blocks of G turn, among which the row isn't. -/
theorem Recs.go (h : Recs B G x v L) (ht : Turns G x y) (hr : ∀ k, v.ownBlock = some k → ¬ G k) (hG : ∀ k, k < x.heap.size → G' k → G k) : Recs B G' y v L := by
  obtain ⟨vs, h1, h2⟩ := h
  refine ⟨vs, own_turn h1 ht hr, fun i hi => ?_⟩
  obtain ⟨u, hu, hs⟩ := h2 i hi
  exact ⟨u, hu, hs.grow (ht.mono fun _ _ h => .inl h) fun k hk h => h.imp (hG k hk) id⟩
theorem Recs.row_lt (h : Recs B G x v L) {k : Nat} (hk : v.ownBlock = some k) : B ≤ k ∧ k < x.heap.size := by
  obtain ⟨vs, h1, -⟩ := h
  exact h1.lt k hk
theorem Recs.base (h : Recs B G x v L) {B' : Nat} (hB : B' ≤ B) : Recs B' G x v L := by
  obtain ⟨vs, h1, h2⟩ := h
  exact ⟨vs, Ta.own_base h1 hB, h2⟩
/-- A list in a row of its own, made since x0, whose records lie in what was there. -/
def More (x0 x : World) (v : Value) (L : List (List UInt8)) : Prop :=
  Below x0.heap.size x0 x ∧ ∃ vs, x.ownsRow x0.heap.size tBs 1 v L.length vs ∧ ∀ (i : Nat) (h : i < L.length), ∃ u, vs[i]? = some u ∧ IsBytes x0 u L[i]
theorem More.is (h : More x0 x v L) : IsRecs x v L := by
  obtain ⟨hb, vs, h1, h2⟩ := h
  rcases h1.2 with ⟨rfl, h0⟩ | ⟨g, cap, cur, rfl, -, hg, hn, hc, hs, ht⟩
  · obtain rfl : L = [] := List.eq_nil_of_length_eq_zero h0
    exact ⟨none, 0, rfl, Nat.le_refl _, Nat.zero_le _, fun h => absurd rfl h⟩
  · refine ⟨_, cap, rfl, hn, hc, fun _ => ⟨g, 0, rfl, fun i hi => ?_⟩⟩
    obtain ⟨u, hu, hst⟩ := h2 i hi
    have hr : x.ownsRow x0.heap.size tBs 1 (.slice (some ⟨g, 0, none⟩) L.length cap) L.length vs := h1
    have h3 := hr.cellAt i (by omega)
    refine ⟨u, ?_, Ta.IsBytes.below hst hb⟩
    rw [Nat.zero_add, h3]
    exact hu
theorem IsRecs.vals (h : IsRecs x0 v M) : ∃ us : List Value, us.length = M.length ∧ (∀ (i : Nat) (h : i < M.length), ∃ u, us[i]? = some u ∧ IsBytes x0 u M[i]) ∧ (∀ u ∈ us, u.oneCell' = true) ∧ (M ≠ [] → ∃ g o c, v = .slice (some ⟨g, o, none⟩) M.length c ∧ ∀ j u, us[j]? = some u → x0.cell? ⟨g, o + j, none⟩ = some u) := by
  obtain ⟨ao, cap, rfl, h1, h2, h3⟩ := h
  by_cases hm : M = []
  · subst hm
    exact ⟨[], rfl, fun i h => by simp at h, fun u h => by simp at h, fun h => absurd rfl h⟩
  · obtain ⟨g, o, rfl, hc⟩ := h3 hm
    refine ⟨List.ofFn fun i : Fin M.length => Classical.choose (hc i.1 i.2), by simp, fun i hi => ⟨_, by rw [List.getElem?_eq_getElem (by simpa using hi)]; simp, (Classical.choose_spec (hc i hi)).2⟩, fun u hu => ?_, fun _ => ⟨g, o, cap, rfl, fun j u hj => ?_⟩⟩
    · obtain ⟨i, rfl⟩ := List.mem_ofFn.1 hu
      obtain ⟨a, c, e, -⟩ := (Classical.choose_spec (hc i.1 i.2)).2
      rw [e]
      rfl
    · have hj' : j < M.length := by have := (List.getElem?_eq_some_iff.1 hj).1; simpa using this
      rw [List.getElem?_eq_getElem (by simpa using hj')] at hj
      simp at hj
      rw [← hj]
      exact (Classical.choose_spec (hc j hj')).1
theorem more_append (h : More x0 x v L) (h2 : IsRecs x0 v2 M) (ty : TypeId) (hz : L.length + M.length ≤ 1000000) :
    ∃ v' y, (Builtin.append_ #[tBss, tBss] ty #[v, v2]).run Try.prog x = .ok v' y ∧ More x0 y v' (L ++ M) := by
  obtain ⟨hb, vs, h1, h3⟩ := h
  obtain ⟨i, z, bb, T, hbb⟩ := recElem
  obtain ⟨us, u1, u2, u3, u4⟩ := h2.vals
  have hvl : vs.length = L.length := by have := h1.1; omega
  by_cases hm : M = []
  · subst hm
    rw [List.append_nil]
    obtain ⟨ao, cap, rfl, -, -, -⟩ := h2
    cases ao with
    | none => exact ⟨v, x, Ta.append_nil T ty h1 (by omega), hb, vs, h1, h3⟩
    | some a =>
      obtain ⟨v', y, hr, o5, g5, -⟩ := append_rows T ty h1 hb.size (m := 0) (news := []) (ad := a) (c := cap) rfl (fun j u hj => by simp at hj) (fun u hu => by simp at hu) (by omega) (Nat.le_trans (Nat.mul_le_mul_left _ hbb) (by omega))
      rw [List.append_nil] at o5
      exact ⟨v', y, hr, hb.grown g5 hb.size fun k hk => (h1.lt k hk).1, vs, o5, h3⟩
  · obtain ⟨g, o, c, rfl, hc⟩ := u4 hm
    obtain ⟨v', y, hr, o5, g5, -⟩ := append_rows T ty h1 hb.size (m := M.length) (news := us) (ad := ⟨g, o, none⟩) (c := c) (by omega) (fun j u hj => by
      rw [addp]
      have := hc j u hj
      exact (hb.cell (World.block_lt_of_cell? x0 _ this)).trans this) u3 (by omega) (Nat.le_trans (Nat.mul_le_mul_left _ hbb) (by omega))
    refine ⟨v', y, hr, hb.grown g5 hb.size fun k hk => (h1.lt k hk).1, vs ++ us, by rw [List.length_append]; exact o5, fun i hi => ?_⟩
    rw [List.length_append] at hi
    by_cases hlt : i < L.length
    · obtain ⟨u, hu, hs⟩ := h3 i hlt
      exact ⟨u, by rw [List.getElem?_append_left (by omega)]; exact hu, by rw [List.getElem_append_left hlt]; exact hs⟩
    · obtain ⟨u, hu, hs⟩ := u2 (i - L.length) (by omega)
      exact ⟨u, by rw [List.getElem?_append_right (by omega), hvl]; exact hu, by rw [List.getElem_append_right (by omega)]; exact hs⟩
theorem walk_more {ops : Array Oper} {rest : List Oper} {o : Oper} {a : Go.Act} {Q : Exit → Go.Act → World → Prop} (hgd : o.guard = none) (s q : Operand) (ho : o.op = .call { callee := .builtin .append, args := #[s, q], argTypes := #[tBss, tBss] })
    (hs : a.eval s = v) (hq : a.eval q = v2) (h : More x0 x v L) (h2 : IsRecs x0 v2 M) (hz : L.length + M.length ≤ 1000000)
    (hK : ∀ v' y, More x0 y v' (L ++ M) → wpList Try.prog ops Q rest (a.put o.dst v') y) : wpList Try.prog ops Q (o :: rest) a x := by
  refine wpList_plain hgd fun K hK' => ?_
  obtain ⟨r', y, hr, h3⟩ := more_append h h2 o.type hz
  unfold Oper.wp execOp
  simp only [ho, resolve, invoke, builtin, Sem.run_bind, Sem.run_pure, Result.andThen_ok, List.map_toArray, List.map_cons, List.map_nil, hs, hq, hr]
  exact hK' _ _ (hK r' y h3)
theorem empty_recs (W : World) : (Instr.buildSlice tBss 0 #[]).run Try.prog W = .ok (.slice (some ⟨W.heap.size, 0, none⟩) 0 0) (W.alloc (.cells #[] tBs)) := by kernel_rfl
theorem more_empty (x0 : World) : More x0 (x0.alloc (.cells #[] tBs)) (.slice (some ⟨x0.heap.size, 0, none⟩) 0 0) [] :=
  ⟨(Below.refl _ _).alloc (Nat.le_refl _) _, [], World.ownsRow_made x0 #[] 0 (Nat.le_refl _) (by unfold maxLen; omega) rfl, fun i h => by simp at h⟩
end
/-- What comes of an append, where all is well. -/
theorem Live.cases {t : Tray (List UInt8)} {s : S} {r : List (List UInt8 × Nat)} {b : List UInt8} (h : Live t s r) (hb : b.length ≤ 60000) (hl : ∀ k, (rdS (append s b t).1 s k).length = 128) :
    append s b t = (t, s, 3) ∨ ((append s b t).2 = ({ s with tail := s.tail + parts b.length }, 0) ∧ Live (append s b t).1 { s with tail := s.tail + parts b.length } (r ++ [(b, s.epoch)])) ∨ ((append s b t).2 = ({ s with dead := true }, 20) ∧ Torn (append s b t).1 { s with dead := true } r b) := by
  by_cases hf : s.count + s.head < parts b.length + s.tail
  · exact .inl (append_full (by omega) hf)
  · cases hw : (wrote s b (parts b.length) t).2 with
    | true =>
      have e := append_goes (by omega) hf h.dead hw
      rw [e] at hl ⊢
      exact .inr (.inl ⟨rfl, h.goes hb hl (by omega) hw⟩)
    | false =>
      have e := append_stops (by omega) hf h.dead hw
      rw [e]
      exact .inr (.inr ⟨rfl, h.stops hb (by omega) hw⟩)
theorem Live.power {t : Tray (List UInt8)} {s : S} {r : List (List UInt8 × Nat)} (h : Live t s r) (z : Int) : Live (t.power z) s r := ⟨h.cache, h.dead, h.inv, h.calm, h.small⟩
theorem calm_next {rd : Nat → List UInt8} {tail E : Nat} (ho : ∀ k, Origin tail E (rd k)) {tail' : Nat} : Calm rd tail' (E + 1) := fun k m j o own hs => by
  rcases ho k with g1 | ⟨e', m', j', o', own', g1, g2, g3, g4⟩
  · exact absurd g1 hs.ne_nul
  · have := (hs.inj g1).1
    omega
/-- Opened again, behind a loss of power. -/
theorem Live.reopen {t : Tray (List UInt8)} {s : S} {r : List (List UInt8 × Nat)} (h : Live t s r) (hE : s.epoch + 1 ≤ 4294967295) (ch : List Bool) :
    found (t.lose ch) ⟨s.first, s.count, s.head, s.head, s.epoch + 1, false⟩ = (r.map Prod.fst, s.tail) ∧ Live (t.lose ch) ⟨s.first, s.count, s.head, s.tail, s.epoch + 1, false⟩ r := by
  obtain ⟨h1, h2, h3⟩ := h.again hE (rd := rdS (t.lose ch) s) (h.lost ch)
  exact ⟨h1, rfl, rfl, h2, h3, h.small⟩
theorem Torn.reopen {t : Tray (List UInt8)} {s : S} {r : List (List UInt8 × Nat)} {b : List UInt8} (h : Torn t s r b) (hE : s.epoch + 1 ≤ 4294967295) (ch : List Bool) (hl : ∀ k, (rdS (t.lose ch) s k).length = 128) :
    (found (t.lose ch) ⟨s.first, s.count, s.head, s.head, s.epoch + 1, false⟩ = (r.map Prod.fst, s.tail) ∧ Live (t.lose ch) ⟨s.first, s.count, s.head, s.tail, s.epoch + 1, false⟩ r) ∨
      (found (t.lose ch) ⟨s.first, s.count, s.head, s.head, s.epoch + 1, false⟩ = ((r ++ [(b, s.epoch)]).map Prod.fst, s.tail + parts b.length) ∧ Live (t.lose ch) ⟨s.first, s.count, s.head, s.tail + parts b.length, s.epoch + 1, false⟩ (r ++ [(b, s.epoch)])) := by
  obtain ⟨rd, hi, hc, ho⟩ := h.was
  have hor : ∀ k, Origin s.tail s.epoch (rdS (t.lose ch) s k) := fun k => by
    rcases ho ch k with h1 | ⟨i, hi', -, h2⟩
    · rw [h1]; exact hi.origin k
    · exact .inr ⟨s.epoch, s.tail + i, i, parts b.length, chunk b i, h2 ▸ new_sct hi.epoch h.len (Nat.le_trans hi.room hi.far) hi', by omega, by omega, Nat.le_refl _⟩
  rcases hi.opened hc h.len h.fits (ho ch) hl hE h.small.2 s.count (Nat.le_refl _) with ⟨g1, g2⟩ | ⟨g1, g2⟩
  · exact .inl ⟨g1, rfl, rfl, g2, calm_next hor, h.small⟩
  · exact .inr ⟨g1, rfl, rfl, g2, calm_next hor, h.small⟩
end Sp
end Go.Proofs.Ytkfmmdiflbnhgaa
