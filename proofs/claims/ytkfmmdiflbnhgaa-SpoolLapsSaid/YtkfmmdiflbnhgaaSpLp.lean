/-
  Layer 13's statements: the state of SpoolLaps' things behind its rounds.
-/
import Derived.Test.YtkfmmdiflbnhgaaSpKp
namespace Go.Proofs.Ytkfmmdiflbnhgaa
set_option maxRecDepth 100000
open Go.RowKit
open Knot (Turns NewRow)
open Ta (IsBytes Stay sec nul ptr IsT Tray Made Grow)
namespace Sp
/-- The state of things behind j rounds. -/
structure Lp (w x : World) (p q R K : Nat) (t : Tray (List UInt8)) (s : S) (F : Nat → Prop) (vu : Value) (r : List (List UInt8 × Nat)) (j : Nat) : Prop where
  sys : Sys w x p q 20 t s F
  ring : x.heap[R]? = some (.cells #[.int .i64 1, .int .i64 (K : Int)] tRg (0, 0))
  offR : ¬ F R ∧ R ≠ q ∧ w.heap.size ≤ R
  geo : s.first = 1 ∧ s.count = K ∧ s.epoch = 1 ∧ s.tail ≤ j * 3
  left : t.left = -1
  few : t.cache = []
  rows : Recs w.heap.size (fun k => F k ∨ k = q) x vu (r.map Prod.fst)
  row : ∀ k, vu.ownBlock = some k → ¬ F k ∧ k ≠ q ∧ k ≠ R
  num : r.length ≤ j
section
variable {w x y : World} {p q R K g n : Nat} {t : Tray (List UInt8)} {s : S} {F : Nat → Prop} {vu : Value} {r : List (List UInt8 × Nat)} {j : Nat} {T : TypeId} {b : List UInt8}
theorem Lp.on (h : Lp w x p q R K t s F vu r j) (hb : Below x.heap.size x y) : Lp w y p q R K t s F vu r j :=
  ⟨h.sys.on hb, (hb.block R (Array.getElem?_eq_some_iff.1 h.ring).1).trans h.ring, h.offR, h.geo, h.left, h.few, h.rows.below hb, h.row, h.num⟩
theorem Lp.more (h : Lp w x p q R K t s F vu r j) : Lp w x p q R K t s F vu r (j + 1) :=
  { h with geo := ⟨h.geo.1, h.geo.2.1, h.geo.2.2.1, by have := h.geo.2.2.2; omega⟩, num := by have := h.num; omega }
theorem Lp.ltR (h : Lp w x p q R K t s F vu r j) : R < x.heap.size := (Array.getElem?_eq_some_iff.1 h.ring).1
theorem Lp.ltq (h : Lp w x p q R K t s F vu r j) : q < x.heap.size := (Array.getElem?_eq_some_iff.1 h.sys.spool).1
/-- A block that is none of theirs. -/
structure Lp.Apart (w : World) (q R : Nat) (F : Nat → Prop) (vu : Value) (g : Nat) : Prop where
  old : w.heap.size ≤ g
  tray : ¬ F g
  box : g ≠ q
  ring : g ≠ R
  row : vu.ownBlock ≠ some g
theorem Lp.apart (h : Lp w x p q R K t s F vu r j) : Lp.Apart w q R F vu x.heap.size :=
  ⟨h.sys.below.size, fun hh => by have := h.sys.tray.low _ hh; omega, by have := h.ltq; omega, by have := h.ltR; omega, fun e => by have := (h.rows.row_lt e).2; omega⟩
/-- It turns; they stay, all but what the list's records are: which lie elsewhere. -/
theorem Lp.bytes (_h : Lp w x p q R K t s F vu r j) (ha : Lp.Apart w q R F vu g) (hb : Blk x g T b) (hn : b.length ≤ 100000) : Stay (fun k => (F k ∨ k = q) ∨ vu.ownBlock = some k) x (fun y => IsBytes y (.slice (some ⟨g, 0, none⟩) b.length b.length) b) := fun y hy => by
  have h1 := hb.turn hy fun hh => hh.elim (fun h2 => h2.elim ha.tray ha.box) ha.row
  have h2 := h1.bytes (o := 0) (m := b.length) (cap := b.length) (by omega) (Nat.le_refl _) (by unfold maxLen; omega)
  rwa [List.drop_zero, List.take_length] at h2
theorem Lp.next {t' : Tray (List UInt8)} {s' : S} {F' : Nat → Prop} (h : Lp w x p q R K t s F vu r j) (hs : Sys w y p q 20 t' s' F') (hF : ∀ k, F' k → F k ∨ x.heap.size ≤ k) (ht : Turns (fun k => F k ∨ k = q) x y)
    (hg : s'.first = s.first ∧ s'.count = s.count ∧ s'.epoch = s.epoch ∧ s'.tail ≤ s.tail + 3) (hl : t'.left = -1) (hc : t'.cache = []) : Lp w y p q R K t' s' F' vu r (j + 1) := by
  have hR := h.ltR
  have hg' := h.geo
  refine ⟨hs, ht.heap h.ring fun hh => hh.elim h.offR.1 h.offR.2.1, ⟨fun hh => ?_, h.offR.2.1, h.offR.2.2⟩, ⟨by rw [hg.1]; exact hg'.1, by rw [hg.2.1]; exact hg'.2.1, by rw [hg.2.2.1]; exact hg'.2.2.1, by omega⟩, hl, hc, h.rows.go ht (fun k hk hh => hh.elim (h.row k hk).1 (h.row k hk).2.1) (fun k hk hh => hh.elim (fun h1 => (hF k h1).elim .inl fun h2 => by omega) .inr), fun k hk => ⟨fun hh => ?_, (h.row k hk).2⟩, by have := h.num; omega⟩
  · rcases hF R hh with h1 | h1
    · exact h.offR.1 h1
    · omega
  · have := h.rows.row_lt hk
    rcases hF k hh with h1 | h1
    · exact (h.row k hk).1 h1
    · omega
/-- One more record in the list. -/
theorem Lp.grow {v' : Value} {r' : List (List UInt8 × Nat)} (h : Lp w x p q R K t s F vu r j) (h2 : Recs w.heap.size (fun k => F k ∨ k = q) y v' (r'.map Prod.fst)) (hg : x.grownBy y vu.ownBlock) (hn : NewRow x vu v') (hr : r'.length ≤ j) : Lp w y p q R K t s F v' r' j := by
  have ht : Turns (fun k => vu.ownBlock = some k) x y := Turns.of_grown hg fun k hk => hk
  refine ⟨h.sys.turn ht fun k hk => ⟨(h.rows.row_lt hk).1, (h.row k hk).1, (h.row k hk).2.1⟩, ht.heap h.ring fun hh => (h.row R hh).2.2 rfl, h.offR, h.geo, h.left, h.few, h2, fun k hk => ?_, hr⟩
  rcases hn k hk with h1 | h1
  · exact h.row k h1
  · exact ⟨fun hh => by have := h.sys.tray.low k hh; omega, by have := h.ltq; omega, by have := h.ltR; omega⟩
/-- The list let go. -/
theorem Lp.none (h : Lp w x p q R K t s F vu r j) : Lp w x p q R K t s F (.slice none 0 0) [] j :=
  ⟨h.sys, h.ring, h.offR, h.geo, h.left, h.few, recs_nil _ _ _, fun k hk => by simp [Value.ownBlock] at hk, Nat.zero_le _⟩
/-- Room for it, or not. -/
theorem Lp.append (h : Lp w x p q R K t s F vu r j) (hl : Live t s r) (hj : j ≤ 200) {v : Value} (hv : Stay F x fun x => IsBytes x v b) (hb : b.length ≤ 300) :
    Calls Try.prog 23 #[ptr q, v] x fun e y => Turns (fun k => F k ∨ k = q) x y ∧ ∃ t' s' F', Lp w y p q R K t' s' F' vu r (j + 1) ∧ (∀ k, F' k → F k ∨ x.heap.size ≤ k) ∧
      ((s.count + s.head < parts b.length + s.tail ∧ e = .returned (.int .i64 3) ∧ t' = t ∧ s' = s) ∨ (e = .returned (.int .i64 0) ∧ Live t' s' (r ++ [(b, 1)]))) := by
  have hg := h.geo
  have hpp : parts b.length ≤ 3 := by unfold parts; omega
  refine (h.sys.append v b hv (by omega) (by rw [h.few]; exact Nat.zero_le _) (by omega)).mono ?_
  rintro e y ⟨rfl, F', hs, hF, ht⟩
  refine ⟨ht, ?_⟩
  by_cases hf : s.count + s.head < parts b.length + s.tail
  · have ha := append_full (t := t) (show ¬ 60000 < b.length by omega) hf
    rw [ha] at hs ⊢
    exact ⟨t, s, F', h.next hs hF ht ⟨rfl, rfl, rfl, by omega⟩ h.left h.few, hF, .inl ⟨hf, rfl, rfl, rfl⟩⟩
  · obtain ⟨h1, h2⟩ := append_free (t := t) (show ¬ 60000 < b.length by omega) hf hl.dead h.left
    rcases hl.cases (b := b) (by omega) (fun k => rdS_len hs.tray s k) with h3 | ⟨h3, h4⟩ | ⟨h3, -⟩
    · rw [h1] at h3
      have := congrArg (fun z => z.2.2) h3
      simp at this
    · rw [h3] at hs ⊢
      exact ⟨_, _, F', h.next hs hF ht ⟨rfl, rfl, rfl, by show s.tail + parts b.length ≤ _; omega⟩ h2 h4.cache, hF, .inr ⟨rfl, by rw [← hg.2.2.1]; exact h4⟩⟩
    · rw [h1] at h3
      have := congrArg (fun z => z.2) h3
      simp at this
/-- Opened upon the same tray, in the next epoch: just these. -/
theorem Lp.opened (h : Lp w x p q R K t s F vu r j) (hl : Live t s r) : found t ⟨s.first, s.count, s.head, s.head, 2, false⟩ = (r.map Prod.fst, s.tail) := by
  have he := h.geo.2.2.1
  obtain ⟨h1, -⟩ := hl.again (by omega) (rd := rdS t s) (fun n => rfl)
  rw [he] at h1
  exact h1
/-- Cut. -/
theorem Lp.cut (h : Lp w x p q R K t s F vu r j) (hs : Sys w y p q 20 t { s with head := s.tail } F) (ht : Turns (fun k => k = q) x y) : Lp w y p q R K t { s with head := s.tail } F (.slice Option.none 0 0) [] j :=
  ⟨hs, ht.heap h.ring fun e => h.offR.2.1 e, h.offR, h.geo, h.left, h.few, recs_nil _ _ _, fun k hk => by simp [Value.ownBlock] at hk, Nat.zero_le _⟩
end
end Sp
end Go.Proofs.Ytkfmmdiflbnhgaa
