/-
  Layer 13, pure: what is found, behind appends, cuts and losses of power.
-/
import Derived.Test.YtdodmjcbjknneaaSpSys
namespace Go.Proofs.Ytdodmjcbjknneaa
set_option maxRecDepth 100000
open Ta (nul Tray)
namespace Sp
/-! ### what a sector is -/
/-- A sector of an epoch, a number, which of how many, its own bytes; all as they may be. -/
structure Sct (b : List UInt8) (e m j o : Nat) (own : List UInt8) : Prop where
  is : b = secB e m j o own
  he : e < 4294967296
  hm : m < 281474976710656
  hj : j < 65536
  ho : o < 65536
  hl : own.length ≤ 108
theorem Sct.inj {b : List UInt8} {e m j o e' m' j' o' : Nat} {own own' : List UInt8} (h : Sct b e m j o own) (h' : Sct b e' m' j' o' own') : e = e' ∧ m = m' ∧ j = j' ∧ o = o' ∧ own = own' := by
  have h1 := h.is
  have h2 := h'.is
  refine ⟨?_, ?_, ?_, ?_, ?_⟩
  · rw [← epO_sec (n := m) (p := j) (o := o) (own := own) h.he, ← h1, h2, epO_sec h'.he]
  · rw [← nuO_sec (e := e) (p := j) (o := o) (own := own) h.hm, ← h1, h2, nuO_sec h'.hm]
  · rw [← paO_sec (e := e) (n := m) (o := o) (own := own) h.hj, ← h1, h2, paO_sec h'.hj]
  · rw [← ofO_sec (e := e) (n := m) (p := j) (own := own) h.ho, ← h1, h2, ofO_sec h'.ho]
  · rw [← owO_sec (e := e) (n := m) (p := j) (o := o) h.hl, ← h1, h2, owO_sec h'.hl]
theorem sec_first (e m j o : Nat) (own : List UInt8) : (secB e m j o own).head? = some 83 := by
  obtain ⟨r, hr⟩ := sec_split (e := e) (n := m) (p := j) (o := o) (own := own)
  rw [hr]
  rfl
theorem Sct.ne_nul {b : List UInt8} {e m j o : Nat} {own : List UInt8} (h : Sct b e m j o own) : b ≠ nul := fun hb => by
  have h1 := sec_first e m j o own
  rw [← h.is, hb] at h1
  have h2 : nul.head? = some 0 := rfl
  rw [h2] at h1
  cases h1
theorem Good.sct {b : List UInt8} {e n k o : Nat} (h : Good b e n k o) (he : e < 4294967296) (hn : n < 281474976710656) (hk : k < 65536) (ho : o < 65536) (hb : b.length = 128) : Sct b e n k o (owO b) :=
  ⟨h.2.2, he, hn, hk, ho, by rw [owO_len hb h.1]; exact h.1⟩
/-- Nothing, or a sector of a record that began at the tail or ahead of it, of an epoch up to E. -/
def Origin (tail E : Nat) (b : List UInt8) : Prop := b = nul ∨ ∃ e m j o own, Sct b e m j o own ∧ j ≤ m ∧ m ≤ tail + j ∧ e ≤ E
theorem Origin.mono {tail E tail' E' : Nat} {b : List UInt8} (h : Origin tail E b) (ht : tail ≤ tail') (hE : E ≤ E') : Origin tail' E' b := by
  rcases h with h | ⟨e, m, j, o, own, h1, h2, h3, h4⟩
  · exact .inl h
  · exact .inr ⟨e, m, j, o, own, h1, h2, by omega, by omega⟩

/-! ### a record that stands -/
theorem parts_pos (n : Nat) : 1 ≤ parts n := by unfold parts; omega
theorem parts_le {n : Nat} (h : n ≤ 60000) : parts n ≤ 556 := by unfold parts; omega
theorem parts_cover (n : Nat) : n ≤ parts n * 108 := by unfold parts; omega
theorem chunk_full {b : List UInt8} {k : Nat} (h : k + 1 < parts b.length) : (chunk b k).length = 108 := by
  rw [chunk_len]
  unfold parts at h
  omega
theorem chunks (b : List UInt8) : ∀ k, (List.range k).flatMap (chunk b) = b.take (k * 108)
  | 0 => by simp
  | k + 1 => by
    rw [List.range_succ, List.flatMap_append, chunks b k]
    simp only [List.flatMap_cons, List.flatMap_nil, List.append_nil, chunk]
    rw [show (k + 1) * 108 = k * 108 + 108 by omega, List.take_add]
/-- The record b, of epoch e, stands at n. -/
def Rec (rd : Nat → List UInt8) (n e : Nat) (b : List UInt8) : Prop := ∀ k, k < parts b.length → rd (n + k) = secB e (n + k) k (parts b.length) (chunk b k)
section
variable {rd : Nat → List UInt8} {n e : Nat} {b : List UInt8}
theorem Rec.sct (h : Rec rd n e b) (hb : b.length ≤ 60000) (he : e < 4294967296) (hn : n ≤ 140737488420864) {k : Nat} (hk : k < parts b.length) : Sct (rd (n + k)) e (n + k) k (parts b.length) (chunk b k) := by
  have := parts_le hb
  exact ⟨h k hk, he, by omega, by omega, by omega, chunk_le b k⟩
theorem Rec.all (h : Rec rd n e b) : All rd n e (parts b.length) := fun k hk => by
  rw [h k hk]
  exact good_sec (chunk_le b k) fun h => chunk_full h
theorem Rec.tells (h : Rec rd n e b) (hb : b.length ≤ 60000) (he : e < 4294967296) : epO (rd n) = e ∧ ofO (rd n) = parts b.length := by
  have h0 := h 0 (parts_pos _)
  have := parts_le hb
  rw [Nat.add_zero] at h0
  rw [h0]
  exact ⟨epO_sec he, ofO_sec (by omega)⟩
theorem Rec.bytes (h : Rec rd n e b) : bytes rd n (parts b.length) = b := by
  have e1 : Sp.bytes rd n (parts b.length) = (List.range (parts b.length)).flatMap (chunk b) := by
    unfold Sp.bytes
    simp only [List.flatMap]
    congr 1
    refine List.map_congr_left fun k hk => ?_
    rw [h k (List.mem_range.1 hk), owO_sec (chunk_le b k)]
  rw [e1, chunks, List.take_of_length_le (parts_cover _)]
theorem Rec.found (h : Rec rd n e b) (hb : b.length ≤ 60000) (he : e < 4294967296) {least E : Nat} (hl : least ≤ e) (hE : e < E) : rec rd n least E = some (b, e, parts b.length) := by
  obtain ⟨h1, h2⟩ := h.tells hb he
  rw [rec_some ⟨by rw [h2]; exact parts_pos _, by rw [h1]; exact hl, by rw [h1]; exact hE, by rw [h1, h2]; exact h.all, by rw [h2, h.bytes]; exact hb⟩, h1, h2, h.bytes]
end

/-! ### records one behind the other -/
def Stands (rd : Nat → List UInt8) : Nat → Nat → List (List UInt8 × Nat) → Nat → Prop
  | n, _, [], n' => n = n'
  | n, least, (b, e) :: r, n' => Rec rd n e b ∧ b.length ≤ 60000 ∧ least ≤ e ∧ Stands rd (n + parts b.length) e r n'
/-- The greatest epoch of records, which don't fall. -/
def lastE : Nat → List (List UInt8 × Nat) → Nat
  | least, [] => least
  | _, (_, e) :: r => lastE e r
theorem Stands.len {rd : Nat → List UInt8} : ∀ {r : List (List UInt8 × Nat)} {n least n' : Nat}, Stands rd n least r n' → n + r.length ≤ n'
  | [], n, least, n', h => by rw [show n = n' from h]; exact Nat.le_refl _
  | (b, e) :: r, n, least, n', h => by
    have h1 := Stands.len h.2.2.2
    have h2 := parts_pos b.length
    simp only [List.length_cons]
    omega
theorem Stands.least {rd : Nat → List UInt8} : ∀ {r : List (List UInt8 × Nat)} {n least n' : Nat}, Stands rd n least r n' → least ≤ lastE least r
  | [], _, _, _, _ => Nat.le_refl _
  | (_, _) :: _, _, _, _, h => Nat.le_trans h.2.2.1 (Stands.least h.2.2.2)
/-- A list of records and one more. -/
theorem Stands.snoc {rd : Nat → List UInt8} {b : List UInt8} {e : Nat} : ∀ {r : List (List UInt8 × Nat)} {n least n' : Nat}, Stands rd n least r n' → Rec rd n' e b → b.length ≤ 60000 → lastE least r ≤ e → Stands rd n least (r ++ [(b, e)]) (n' + parts b.length)
  | [], n, least, n', h, h1, h2, h3 => by
    obtain rfl : n = n' := h
    exact ⟨h1, h2, h3, rfl⟩
  | (_, _) :: r, n, least, n', h, h1, h2, h3 => ⟨h.1, h.2.1, h.2.2.1, Stands.snoc h.2.2.2 h1 h2 h3⟩
theorem lastE_snoc (b : List UInt8) (e : Nat) : ∀ (r : List (List UInt8 × Nat)) (least : Nat), lastE least (r ++ [(b, e)]) = e
  | [], _ => rfl
  | (_, _) :: r, _ => lastE_snoc b e r _
/-- Whatever holds the same there. -/
theorem Stands.same {rd rd' : Nat → List UInt8} : ∀ {r : List (List UInt8 × Nat)} {n least n' : Nat}, Stands rd n least r n' → (∀ k, n ≤ k → k < n' → rd' k = rd k) → Stands rd' n least r n'
  | [], _, _, _, h, _ => h
  | (b, e) :: r, n, least, n', h, hs => by
    have h1 := Stands.len h.2.2.2
    have h2 := parts_pos b.length
    refine ⟨fun k hk => ?_, h.2.1, h.2.2.1, Stands.same h.2.2.2 fun k h3 h4 => hs k (by omega) h4⟩
    rw [hs (n + k) (by omega) (by omega)]
    exact h.1 k hk
/-- What is found: these, and what is found behind them. -/
theorem find_stands {rd : Nat → List UInt8} {stop E : Nat} : ∀ {r : List (List UInt8 × Nat)} {n least n' f : Nat}, Stands rd n least r n' → n' ≤ stop → lastE least r < E → E ≤ 4294967296 → r.length ≤ f →
    find rd stop E f n least = (r.map Prod.fst ++ (find rd stop E (f - r.length) n' (lastE least r)).1, (find rd stop E (f - r.length) n' (lastE least r)).2)
  | [], n, least, n', f, h, _, _, _, _ => by
    obtain rfl : n = n' := h
    rfl
  | (b, e) :: r, n, least, n', f, h, hs, hE, hE2, hf => by
    have h1 := Stands.len h.2.2.2
    have h2 := parts_pos b.length
    have h3 := Stands.least h.2.2.2
    have hE' : lastE e r < E := hE
    obtain ⟨f, rfl⟩ : ∃ f', f = f' + 1 := ⟨f - 1, by simp at hf; omega⟩
    rw [find_step (by omega) (h.1.found h.2.1 (by omega) h.2.2.1 (by omega)), find_stands h.2.2.2 hs hE' hE2 (by simpa using hf)]
    simp [lastE]
/-! ### what may be, behind any loss of power -/
/-- A ring of c sectors, told by numbers: r stands from the head to the tail, the epoch is E; nothing of an elder epoch is whole at the tail, and all sectors come of records that began at the tail, or ahead. -/
structure Inv (rd : Nat → List UInt8) (c head tail E : Nat) (r : List (List UInt8 × Nat)) : Prop where
  len : ∀ k, (rd k).length = 128
  stands : Stands rd head 0 r tail
  last : lastE 0 r ≤ E
  room : tail ≤ head + c
  origin : ∀ k, Origin tail E (rd k)
  old : ∀ e o, 0 < o → o < 65536 → e < E → ¬ All rd tail e o
  epoch : E < 4294967296
  far : head + c ≤ 140737488355328
/-- .. and nothing of this epoch is at the tail or behind. -/
def Calm (rd : Nat → List UInt8) (tail E : Nat) : Prop := ∀ k m j o own, Sct (rd k) E m j o own → m < tail
/-- Some sectors of the record b at the tail, of the epoch E, are written; those that aren't are as they were. -/
def Over (rd rd' : Nat → List UInt8) (c tail E : Nat) (b : List UInt8) : Prop :=
  ∀ n, rd' n = rd n ∨ ∃ k, k < parts b.length ∧ n % c = (tail + k) % c ∧ rd' n = secB E (tail + k) k (parts b.length) (chunk b k)
section
variable {rd rd' : Nat → List UInt8} {c head tail E : Nat} {r : List (List UInt8 × Nat)} {b : List UInt8}
theorem new_sct (hE : E < 4294967296) (hb : b.length ≤ 60000) (ht : tail ≤ 140737488355328) {k : Nat} (hk : k < parts b.length) : Sct (secB E (tail + k) k (parts b.length) (chunk b k)) E (tail + k) k (parts b.length) (chunk b k) := by
  have := parts_le hb
  exact ⟨rfl, hE, by omega, by omega, by omega, chunk_le b k⟩
/-- No record of whatever epoch begins behind the tail. -/
theorem Inv.behind (h : Inv rd c head tail E r) {n : Nat} (hn : tail < n) (hn2 : n < 281474976710656) {e o : Nat} (ho : 0 < o) (ho2 : o < 65536) (he : e < 4294967296) : ¬ All rd n e o := fun ha => by
  have hg := (ha 0 ho).sct he hn2 (by omega) ho2 (h.len _)
  rcases h.origin (n + 0) with h1 | ⟨e', m', j', o', own', h1, h2, h3, h4⟩
  · exact hg.ne_nul h1
  · obtain ⟨a1, a2, a3, a4, a5⟩ := hg.inj h1
    omega
theorem mod_apart {c a x y : Nat} (hx : a ≤ x) (hy : a ≤ y) (hx2 : x < a + c) (hy2 : y < a + c) (h : x % c = y % c) : x = y := by
  have h1 := Nat.div_add_mod x c
  have h2 := Nat.div_add_mod y c
  have hc : 0 < c := by omega
  rcases Nat.lt_trichotomy (x / c) (y / c) with h3 | h3 | h3
  · have h4 : c * (x / c) + c ≤ c * (y / c) := by rw [← Nat.mul_succ]; exact Nat.mul_le_mul_left c h3
    omega
  · rw [h3] at h1; omega
  · have h4 : c * (y / c) + c ≤ c * (x / c) := by rw [← Nat.mul_succ]; exact Nat.mul_le_mul_left c h3
    omega
/-- Where a record fits in, what stands isn't touched. -/
theorem Over.keeps (ho : Over rd rd' c tail E b) (hf : tail + parts b.length ≤ head + c) {n : Nat} (h1 : head ≤ n) (h2 : n < tail) : rd' n = rd n := by
  rcases ho n with h | ⟨k, hk, hm, -⟩
  · exact h
  · have := mod_apart (a := head) (c := c) h1 (by omega) (by omega) (by omega) hm
    omega
/-- A sector of an elder epoch was there. -/
theorem Over.elder (ho : Over rd rd' c tail E b) (hE : E < 4294967296) (hb : b.length ≤ 60000) (ht : tail ≤ 140737488355328) {n e m j o : Nat} {own : List UInt8} (h : Sct (rd' n) e m j o own) (he : e ≠ E) : rd' n = rd n := by
  rcases ho n with h1 | ⟨k, hk, -, h2⟩
  · exact h1
  · rw [h2] at h
    exact absurd (h.inj (new_sct hE hb ht hk)).1 he
/-- Behind a loss of power, or none, where a record of epoch E was being written at the tail: these records are found, or these and that one; and so it goes on in the next epoch. -/
theorem Inv.opened (h : Inv rd c head tail E r) (hc : Calm rd tail E) (hb : b.length ≤ 60000) (hf : tail + parts b.length ≤ head + c) (ho : Over rd rd' c tail E b) (hl : ∀ k, (rd' k).length = 128) (hE : E + 1 ≤ 4294967295) (_hc2 : c ≤ 4096) (f : Nat) (hf2 : c ≤ f) :
    (find rd' (head + c) (E + 1) f head 0 = (r.map Prod.fst, tail) ∧ Inv rd' c head tail (E + 1) r) ∨ (find rd' (head + c) (E + 1) f head 0 = ((r ++ [(b, E)]).map Prod.fst, tail + parts b.length) ∧ Inv rd' c head (tail + parts b.length) (E + 1) (r ++ [(b, E)])) := by
  have hpp := parts_pos b.length
  have hp556 := parts_le hb
  have hst : Stands rd' head 0 r tail := h.stands.same fun k h1 h2 => ho.keeps hf h1 h2
  have hlen := h.stands.len
  have hfar : tail ≤ 140737488355328 := Nat.le_trans h.room h.far
  have hor : ∀ k, Origin tail E (rd' k) := fun k => by
    rcases ho k with h1 | ⟨i, hi, -, h2⟩
    · rw [h1]; exact h.origin k
    · exact .inr ⟨E, tail + i, i, parts b.length, chunk b i, h2 ▸ new_sct h.epoch hb hfar hi, by omega, by omega, Nat.le_refl _⟩
  -- an elder record at the tail: none
  have hold : ∀ e o, 0 < o → o < 65536 → e < E → ¬ All rd' tail e o := fun e o h1 h2 h3 ha => h.old e o h1 h2 h3 fun k hk => by
    have hs := (ha k hk).sct (by omega) (by omega) (by omega) h2 (hl _)
    rw [← ho.elder h.epoch hb hfar hs (by omega)]
    exact ha k hk
  -- one of this epoch at the tail: this one
  have hthis : ∀ o, 0 < o → o < 65536 → All rd' tail E o → Rec rd' tail E b := fun o h1 h2 ha => by
    have key : ∀ k, k < o → ∃ i, i < parts b.length ∧ rd' (tail + k) = secB E (tail + i) i (parts b.length) (chunk b i) := fun k hk => by
      rcases ho (tail + k) with h3 | ⟨i, hi, -, h4⟩
      · have hs := (ha k hk).sct h.epoch (by omega) (by omega) h2 (hl _)
        rw [h3] at hs
        have := hc _ _ _ _ _ hs
        omega
      · exact ⟨i, hi, h4⟩
    have hoo : o = parts b.length := by
      obtain ⟨i, hi, h4⟩ := key 0 h1
      have hs := (ha 0 h1).sct h.epoch (by omega) (by omega) h2 (hl _)
      rw [h4] at hs
      exact (hs.inj (new_sct h.epoch hb hfar hi)).2.2.2.1
    intro k hk
    obtain ⟨i, hi, h4⟩ := key k (by omega)
    have hs := (ha k (by omega)).sct h.epoch (by omega) (by omega) h2 (hl _)
    rw [h4] at hs
    have hik := (hs.inj (new_sct h.epoch hb hfar hi)).2.1
    rw [h4, show i = k by omega]
  have hfs := find_stands (E := E + 1) hst h.room (by have := h.last; omega) (by omega) (show r.length ≤ f by have := h.room; omega)
  by_cases hw : Rec rd' tail E b
  · refine .inr ⟨?_, ?_⟩
    · have hroom := h.room
      obtain ⟨f', hf'⟩ : ∃ f', f - r.length = f' + 1 := ⟨f - r.length - 1, by omega⟩
      rw [hfs, hf', find_step (by omega) (hw.found hb h.epoch h.last (by omega))]
      have hend : find rd' (head + c) (E + 1) f' (tail + parts b.length) E = ([], tail + parts b.length) := by
        refine find_none (rec_none fun ⟨g1, g2, g3, g4, _⟩ => ?_)
        have ho2 := ofO_lt (hl (tail + parts b.length))
        have hs := (g4 0 g1).sct (by omega) (by omega) (by omega) ho2 (hl _)
        rcases hor (tail + parts b.length + 0) with h1 | ⟨e', m', j', o', own', h1, h2, h3, h4⟩
        · exact hs.ne_nul h1
        · obtain ⟨a1, a2, a3, a4, a5⟩ := hs.inj h1
          omega
      rw [hend]
      simp
    · exact ⟨hl, hst.snoc hw hb h.last, by rw [lastE_snoc]; omega, hf, fun k => (hor k).mono (by omega) (by omega), fun e o h1 h2 h3 ha => by
        have hs := (ha 0 h1).sct (by omega) (by omega) (by omega) h2 (hl _)
        rcases hor (tail + parts b.length + 0) with g1 | ⟨e', m', j', o', own', g1, g2, g3, g4⟩
        · exact hs.ne_nul g1
        · obtain ⟨a1, a2, a3, a4, a5⟩ := hs.inj g1
          omega, by omega, h.far⟩
  · have hno : ∀ e o, 0 < o → o < 65536 → e < E + 1 → ¬ All rd' tail e o := fun e o h1 h2 h3 ha => by
      by_cases he : e = E
      · subst he
        exact hw (hthis o h1 h2 ha)
      · exact hold e o h1 h2 (by omega) ha
    refine .inl ⟨?_, ⟨hl, hst, by have := h.last; omega, h.room, fun k => (hor k).mono (Nat.le_refl _) (by omega), hno, by omega, h.far⟩⟩
    rw [hfs, find_none (rec_none fun ⟨g1, g2, g3, g4, _⟩ => hno _ _ g1 (ofO_lt (hl tail)) g3 g4)]
    simp
/-- In the next epoch nothing of it is there yet. -/
theorem Inv.calm (_h : Inv rd c head tail E r) {tail' : Nat} (_hE : E + 1 ≤ 4294967295) (ho : ∀ k, Origin tail' E (rd k)) : Calm rd tail' (E + 1) := fun k m j o own hs => by
  rcases ho k with g1 | ⟨e', m', j', o', own', g1, g2, g3, g4⟩
  · exact absurd g1 hs.ne_nul
  · have := (hs.inj g1).1
    omega
/-- A record that was appended with OK. -/
theorem Inv.appended (h : Inv rd c head tail E r) (hc : Calm rd tail E) (hb : b.length ≤ 60000) (hf : tail + parts b.length ≤ head + c) (ho : Over rd rd' c tail E b) (hw : Rec rd' tail E b) (hl : ∀ k, (rd' k).length = 128) :
    Inv rd' c head (tail + parts b.length) E (r ++ [(b, E)]) ∧ Calm rd' (tail + parts b.length) E := by
  have hpp := parts_pos b.length
  have hfar : tail ≤ 140737488355328 := Nat.le_trans h.room h.far
  have hor : ∀ k, Origin tail E (rd' k) := fun k => by
    rcases ho k with h1 | ⟨i, hi, -, h2⟩
    · rw [h1]; exact h.origin k
    · exact .inr ⟨E, tail + i, i, parts b.length, chunk b i, h2 ▸ new_sct h.epoch hb hfar hi, by omega, by omega, Nat.le_refl _⟩
  have hp556 := parts_le hb
  refine ⟨⟨hl, (h.stands.same fun k h1 h2 => ho.keeps hf h1 h2).snoc hw hb h.last, by rw [lastE_snoc]; exact Nat.le_refl _, hf, fun k => (hor k).mono (by omega) (Nat.le_refl _), fun e o h1 h2 h3 ha => ?_, h.epoch, h.far⟩, fun k m j o own hs => ?_⟩
  · have hep := h.epoch
    have hs := (ha 0 h1).sct (by omega) (by omega) (by omega) h2 (hl _)
    rcases hor (tail + parts b.length + 0) with g1 | ⟨e', m', j', o', own', g1, g2, g3, g4⟩
    · exact hs.ne_nul g1
    · obtain ⟨a1, a2, a3, a4, a5⟩ := hs.inj g1
      omega
  · rcases ho k with h1 | ⟨i, hi, -, h2⟩
    · rw [h1] at hs
      have := hc _ _ _ _ _ hs
      omega
    · rw [h2] at hs
      have := (hs.inj (new_sct h.epoch hb hfar hi)).2.1
      omega
/-- A cut. -/
theorem Inv.cut (h : Inv rd c head tail E r) (hfar : tail + c ≤ 140737488355328) : Inv rd c tail tail E [] :=
  ⟨h.len, rfl, Nat.zero_le _, Nat.le_add_right _ _, h.origin, h.old, h.epoch, hfar⟩
theorem inv_fresh (c : Nat) (hc : c ≤ 4096) {rd : Nat → List UInt8} (hr : ∀ k, rd k = nul) : Inv rd c 0 0 1 [] ∧ Calm rd 0 1 := by
  refine ⟨⟨fun k => by rw [hr]; rfl, rfl, Nat.zero_le _, Nat.zero_le _, fun k => .inl (hr k), fun e o h1 h2 h3 ha => ?_, by omega, by omega⟩, fun k m j o own hs => absurd (hr k) hs.ne_nul⟩
  exact ((ha 0 h1).sct (by omega) (by omega) (by omega) h2 (by rw [hr]; rfl)).ne_nul (hr _)
end
end Sp
end Go.Proofs.Ytdodmjcbjknneaa
