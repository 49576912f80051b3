/-
  Layer 13's statements: the state of SpoolKeeps' things behind its acts.
-/
import Derived.Test.YtkfmmdiflbnhgaaSgpK
namespace Go.Proofs.Ytkfmmdiflbnhgaa
set_option maxRecDepth 100000
open Go.RowKit
open Knot (Turns NewRow)
open Ta (IsBytes IsFlags IsActs Stay sec nul ptr IsT Tray Made Grow)
namespace Sp
/-- The state of things behind j acts. -/
structure Kp (w x : World) (p q R K : Nat) (t : Tray (List UInt8)) (s : S) (F : Nat → Prop) (vu : Value) (r : List (List UInt8 × Nat)) (j : Nat) : Prop where
  sys : Sys w x p q 40 t s F
  ring : x.heap[R]? = some (.cells #[.int .i64 3, .int .i64 (K : Int)] tRg (0, 0))
  offR : ¬ F R ∧ R ≠ q ∧ w.heap.size ≤ R
  geo : s.first = 3 ∧ s.count = K ∧ s.epoch ≤ j + 1 ∧ s.tail ≤ j * 1000
  few : t.cache.length ≤ 1000
  rows : Recs w.heap.size (fun k => F k ∨ k = q) x vu (r.map Prod.fst)
  row : ∀ k, vu.ownBlock = some k → ¬ F k ∧ k ≠ q ∧ k ≠ R
  num : r.length ≤ j
section
variable {w x y : World} {p q R K : Nat} {t : Tray (List UInt8)} {s : S} {F : Nat → Prop} {vu : Value} {r : List (List UInt8 × Nat)} {j : Nat}
theorem Kp.on (h : Kp w x p q R K t s F vu r j) (hb : Below x.heap.size x y) : Kp w y p q R K t s F vu r j :=
  ⟨h.sys.on hb, (hb.block R (Array.getElem?_eq_some_iff.1 h.ring).1).trans h.ring, h.offR, h.geo, h.few, h.rows.below hb, h.row, h.num⟩
theorem Kp.more (h : Kp w x p q R K t s F vu r j) : Kp w x p q R K t s F vu r (j + 1) :=
  { h with geo := ⟨h.geo.1, h.geo.2.1, by have := h.geo.2.2.1; omega, by have := h.geo.2.2.2; omega⟩, num := by have := h.num; omega }
theorem Kp.ltR (h : Kp w x p q R K t s F vu r j) : R < x.heap.size := (Array.getElem?_eq_some_iff.1 h.ring).1
theorem Kp.ltq (h : Kp w x p q R K t s F vu r j) : q < x.heap.size := (Array.getElem?_eq_some_iff.1 h.sys.spool).1
/-- What was there before all. -/
theorem Kp.old (h : Kp w x p q R K t s F vu r j) (ht : Turns (fun k => F k ∨ k = q) x y) : Below w.heap.size w y :=
  h.sys.below.trans (ht.below h.sys.below.size fun k hk => hk.elim (h.sys.new k) fun e => by rw [e]; exact h.sys.newq)
/-- Behind an append: its tray lies in F', which has new blocks besides. -/
theorem Kp.next {t' : Tray (List UInt8)} {s' : S} {F' : Nat → Prop} (h : Kp w x p q R K t s F vu r j) (hs : Sys w y p q 40 t' s' F') (hF : ∀ k, F' k → F k ∨ x.heap.size ≤ k) (ht : Turns (fun k => F k ∨ k = q) x y)
    (hg : s'.first = s.first ∧ s'.count = s.count ∧ s'.epoch = s.epoch ∧ s'.tail ≤ s.tail + 1000) (hc : t'.cache.length ≤ 1000) : Kp w y p q R K t' s' F' vu r (j + 1) := by
  have hR := h.ltR
  have hg' := h.geo
  refine ⟨hs, ht.heap h.ring fun hh => hh.elim h.offR.1 h.offR.2.1, ⟨fun hh => ?_, h.offR.2.1, h.offR.2.2⟩, ⟨by rw [hg.1]; exact hg'.1, by rw [hg.2.1]; exact hg'.2.1, by rw [hg.2.2.1]; omega, by omega⟩, hc, h.rows.go ht (fun k hk hh => hh.elim (h.row k hk).1 (h.row k hk).2.1) (fun k hk hh => hh.elim (fun h1 => (hF k h1).elim .inl fun h2 => by omega) .inr), fun k hk => ⟨fun hh => ?_, (h.row k hk).2⟩, by have := h.num; omega⟩
  · rcases hF R hh with h1 | h1
    · exact h.offR.1 h1
    · omega
  · have := h.rows.row_lt hk
    rcases hF k hh with h1 | h1
    · exact (h.row k hk).1 h1
    · omega
/-- One more record in the list. -/
theorem Kp.grow {v' : Value} {r' : List (List UInt8 × Nat)} (h : Kp w x p q R K t s F vu r j) (h2 : Recs w.heap.size (fun k => F k ∨ k = q) y v' (r'.map Prod.fst)) (hg : x.grownBy y vu.ownBlock) (hn : NewRow x vu v') (hr : r'.length ≤ j) : Kp w y p q R K t s F v' r' j := by
  have ht : Turns (fun k => vu.ownBlock = some k) x y := Turns.of_grown hg fun k hk => hk
  refine ⟨h.sys.turn ht fun k hk => ⟨(h.rows.row_lt hk).1, (h.row k hk).1, (h.row k hk).2.1⟩, ht.heap h.ring fun hh => (h.row R hh).2.2 rfl, h.offR, h.geo, h.few, h2, fun k hk => ?_, hr⟩
  rcases hn k hk with h1 | h1
  · exact h.row k h1
  · exact ⟨fun hh => by have := h.sys.tray.low k hh; omega, by have := h.ltq; omega, by have := h.ltR; omega⟩
/-- The list let go. -/
theorem Kp.none (h : Kp w x p q R K t s F vu r j) : Kp w x p q R K t s F (.slice none 0 0) [] j :=
  ⟨h.sys, h.ring, h.offR, h.geo, h.few, recs_nil _ _ _, fun k hk => by simp [Value.ownBlock] at hk, Nat.zero_le _⟩
/-- A row of records is no spool's box. -/
theorem Recs.off {B : Nat} {G : Nat → Prop} {v : Value} {L : List (List UInt8)} (h : Recs B G x v L) (hq : SpB x q p s) : ∀ k, v.ownBlock = some k → k ≠ q := by
  intro k hk e
  obtain ⟨vs, h1, -⟩ := h
  rcases h1.2 with ⟨rfl, h0⟩ | ⟨g, cap, cur, rfl, hb, hg, hn, hc, hs, ht⟩
  · simp [Value.ownBlock] at hk
  · obtain rfl : g = k := by simpa [Value.ownBlock] using hk
    unfold SpB at hq
    rw [e] at hg
    rw [hg] at hq
    simp [tBs, tSo] at hq
/-- Opened again, upon a tray made from x to z: the list is what was found. -/
theorem Kp.anew {z : World} {p' q' : Nat} {t' : Tray (List UInt8)} {s' : S} {v' : Value} {r' : List (List UInt8 × Nat)} (h : Kp w x p q R K t s F vu r j) (hz : Below x.heap.size x z) (hy : Below z.heap.size z y) (hs : Sys w y p' q' 40 t' s' (Made x z)) (hq : z.heap.size ≤ q')
    (hr : Recs z.heap.size (fun k => k < z.heap.size ∨ k = q') y v' (r'.map Prod.fst)) (hc : t'.cache = []) (hg : s'.first = 3 ∧ s'.count = K ∧ s'.epoch = s.epoch + 1 ∧ s'.tail ≤ s.tail + 1000) (hn : r'.length ≤ j + 1) : Kp w y p' q' R K t' s' (Made x z) v' r' (j + 1) := by
  have hR := h.ltR
  have hzs := hz.size
  have hg' := h.geo
  have hw := h.sys.below.size
  refine ⟨hs, ((hz.trans (hy.mono hz.size)).block R hR).trans h.ring, ⟨fun hh => by have := hh.1; omega, by omega, h.offR.2.2⟩, ⟨hg.1, hg.2.1, by omega, by omega⟩, by rw [hc]; exact Nat.zero_le _, ?_, fun k hk => ?_, hn⟩
  · have h1 := Recs.base (B' := w.heap.size) hr (by omega)
    obtain ⟨vs, h2, h3⟩ := h1
    refine ⟨vs, h2, fun i hi => ?_⟩
    obtain ⟨u, hu, hst⟩ := h3 i hi
    exact ⟨u, hu, hst.grow (Turns.refl _ _) fun k hk hh => hh.imp (fun h1 => h1.imp (fun h2 => h2.2) id) id⟩
  · have h1 := (hr.row_lt hk).1
    exact ⟨fun hh => by have := hh.2; omega, hr.off hs.spool k hk, by omega⟩
/-- All is well, and nothing hangs; or one record does. -/
def Hang (x : World) (vy : Value) (t : Tray (List UInt8)) (s : S) (r : List (List UInt8 × Nat)) : Prop :=
  (vy = .slice none 0 0 ∧ Live t s r) ∨ ∃ b a c, vy = .slice a 1 c ∧ IsRecs x vy [b] ∧ Torn t s r b
theorem Hang.on {vy : Value} (h : Hang x vy t s r) (hb : Below x.heap.size x y) : Hang y vy t s r := by
  rcases h with h | ⟨b, a, c, h1, h2, h3⟩
  · exact .inl h
  · exact .inr ⟨b, a, c, h1, h2.below hb, h3⟩
theorem Kp.stay {v : Value} {b : List UInt8} (h : Kp w x p q R K t s F vu r j) (hb : IsBytes w v b) : Stay (fun k => (F k ∨ k = q) ∨ vu.ownBlock = some k) x (fun y => IsBytes y v b) := fun y hy =>
  hb.below (h.sys.below.trans (hy.below h.sys.below.size fun k hk => hk.elim (fun h1 => h1.elim (h.sys.new k) fun e => by rw [e]; exact h.sys.newq) fun h1 => (h.rows.row_lt h1).1))
theorem nil_recs (x : World) : IsRecs x (.slice none 0 0) [] := ⟨none, 0, rfl, Nat.le_refl _, Nat.zero_le _, fun h => absurd rfl h⟩
theorem lone_recs {v : Value} {b : List UInt8} (hb : IsBytes x v b) : IsRecs (x.alloc (.cells #[v] tBs)) (.slice (some ⟨x.heap.size, 0, none⟩) 1 1) [b] :=
  ⟨_, 1, rfl, Nat.le_refl _, by unfold maxLen; omega, fun _ => ⟨x.heap.size, 0, rfl, fun i hi => by
    obtain rfl : i = 0 := by simpa using hi
    exact ⟨v, by rw [Lib.cell_of_heap (heap_alloc_new x _)]; rfl, hb.below ((Below.refl _ _).alloc (Nat.le_refl _) _)⟩⟩⟩
/-- Opened again, whatever hung. -/
theorem Hang.reopen {vy : Value} (h : Hang x vy t s r) (hE : s.epoch + 1 ≤ 4294967295) (ch : List Bool) (hl : ∀ k, (rdS (t.lose ch) s k).length = 128) :
    ∃ (T : List (List UInt8)) (r' : List (List UInt8 × Nat)) (tail' : Nat), IsRecs x vy T ∧ found (t.lose ch) ⟨s.first, s.count, s.head, s.head, s.epoch + 1, false⟩ = (r'.map Prod.fst, tail') ∧ Live (t.lose ch) ⟨s.first, s.count, s.head, tail', s.epoch + 1, false⟩ r' ∧
      (r'.map Prod.fst = r.map Prod.fst ∨ r'.map Prod.fst = r.map Prod.fst ++ T) ∧ tail' ≤ s.tail + 1000 ∧ r'.length ≤ r.length + 1 ∧ T.length ≤ 1 := by
  rcases h with ⟨rfl, h⟩ | ⟨b, a, c, rfl, h1, h⟩
  · obtain ⟨e1, e2⟩ := h.reopen hE ch
    exact ⟨[], r, s.tail, nil_recs _, e1, e2, .inl rfl, by omega, by omega, by simp⟩
  · have hpp := parts_le h.len
    rcases h.reopen hE ch hl with ⟨e1, e2⟩ | ⟨e1, e2⟩
    · exact ⟨[b], r, s.tail, h1, e1, e2, .inl rfl, by omega, by omega, by simp⟩
    · exact ⟨[b], r ++ [(b, s.epoch)], s.tail + parts b.length, h1, e1, e2, .inr (by simp), by omega, by simp, by simp⟩
end
end Sp
end Go.Proofs.Ytkfmmdiflbnhgaa
