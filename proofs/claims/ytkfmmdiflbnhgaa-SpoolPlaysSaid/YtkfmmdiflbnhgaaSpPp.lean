/-
  Layer 13's statements: SpoolPlays: the program's tray and spool and the document's, side by side.
-/
import Derived.Test.YtkfmmdiflbnhgaaSpDApp
import Derived.Test.YtkfmmdiflbnhgaaSpDBad
import Derived.Test.YtkfmmdiflbnhgaaSgpF
namespace Go.Proofs.Ytkfmmdiflbnhgaa
set_option maxRecDepth 100000
open Go.RowKit
open Knot (Turns NewRow)
open Ta (IsBytes Stay sec nul tSec Tray IsT IsD Grow C5 tTr st5 Pl ptr)
namespace Sp
/-! ### how many writes there are -/
theorem wr_few (s : S) (b : List UInt8) (o : Nat) : ∀ (f k : Nat) (t : Tray (List UInt8)), (wr s b o f k t).1.kept.length + (wr s b o f k t).1.cache.length ≤ t.kept.length + t.cache.length + f
  | 0, k, t => by rw [wr]; exact Nat.le_refl _
  | f + 1, k, t => by
    by_cases h : t.left = 0
    · rw [wr_stop h]
      show t.kept.length + t.cache.length ≤ _
      omega
    · rw [wr_go h]
      have h1 := wr_few s b o f (k + 1) (t.put (s.at (s.tail + k) : Nat) (s.sector b o k))
      have h2 : (t.put (s.at (s.tail + k) : Nat) (s.sector b o k)).kept.length + (t.put (s.at (s.tail + k) : Nat) (s.sector b o k)).cache.length = t.kept.length + t.cache.length + 1 := by
        unfold Tray.put
        rw [if_neg h]
        show t.kept.length + (t.cache ++ [_]).length = _
        rw [List.length_append, List.length_singleton]
        omega
      omega
theorem flush_few (t : Tray (List UInt8)) : t.flush.kept.length + t.flush.cache.length = t.kept.length + t.cache.length := by
  unfold Tray.flush
  split
  · rfl
  · show (t.kept ++ t.cache).length + 0 = _
    rw [List.length_append]; omega
theorem wrote_few (s : S) (b : List UInt8) (o : Nat) (t : Tray (List UInt8)) : (wrote s b o t).1.kept.length + (wrote s b o t).1.cache.length ≤ t.kept.length + t.cache.length + o := by
  have h := wr_few s b o o 0 t
  unfold wrote
  simp only
  split
  · split
    · exact h
    · rw [flush_few]; exact h
  · exact h
theorem append_few (s : S) (b : List UInt8) (t : Tray (List UInt8)) : (append s b t).1.kept.length + (append s b t).1.cache.length ≤ t.kept.length + t.cache.length + parts b.length := by
  have h := wrote_few s b (parts b.length) t
  unfold append
  split
  · show t.kept.length + t.cache.length ≤ _; omega
  · split
    · show t.kept.length + t.cache.length ≤ _; omega
    · split
      · show t.kept.length + t.cache.length ≤ _; omega
      · split
        · exact h
        · exact h

section
variable {w x y z Y z1 z2 : World} {p p' q R X K n j j' : Nat} {t t' : Tray (List UInt8)} {s s' : S} {F F' G : Nat → Prop} {kv cv kv' cv' : Value}
/-- More blocks may turn: those that were made since. -/
theorem pl_grown (h : Pl w Y p R n t F G kv cv j) (hb : Below Y.heap.size Y z) : Pl w z p R n t F (Grow G Y z) kv cv j := by
  have hR := h.box.lt
  have hs : ∀ k, k < Y.heap.size → (Grow G Y z k ∨ k = R) → G k ∨ k = R := fun k hk hg => by
    rcases hg with (hg | hg) | hg
    · exact .inl hg
    · omega
    · exact .inr hg
  have ht : Turns (fun k => G k ∨ k = R) Y z := Turns.of_below hb
  have h' := h.on hb
  have h1 := h.below.size
  exact ⟨h'.below, h'.is, fun k hk => .inl (h.sub k hk), fun k hk => hk.elim (fun hk => Nat.lt_of_lt_of_le (h.low k hk) hb.size) fun hk => hk.2, fun k hk => hk.elim (h.new k) fun hk => by omega, h.few, h'.box, ⟨h.off.1, fun hk => hk.elim h.off.2 fun hk => by omega⟩, h.dk.grow ht hs, h.dc.grow ht hs⟩
/-- Both trays, the document's spool, the ring: the program's spool left aside. -/
structure Pq (w x : World) (p R X K : Nat) (t : Tray (List UInt8)) (s : S) (F G : Nat → Prop) (kv cv : Value) (j : Nat) : Prop where
  pl : Pl w x p R 12 t F G kv cv (10 * j)
  ds : DsB x X s
  ring : x.heap[K]? = some (.cells #[.int .i64 (s.first : Int), .int .i64 (s.count : Int)] tRg (0, 0))
  fits : Fits s
  room : s.first + s.count ≤ 12
  tail : s.tail ≤ 1099511627776 + 100 + 700 * j
  offX : G X ∧ ¬ F X
  offK : ¬ G K ∧ K ≠ R ∧ w.heap.size ≤ K
/-- And the program's spool. -/
structure Pp (w x : World) (p q R X K : Nat) (t : Tray (List UInt8)) (s : S) (F G : Nat → Prop) (kv cv : Value) (j : Nat) : Prop where
  pq : Pq w x p R X K t s F G kv cv j
  sp : SpB x q p s
  offq : G q ∧ ¬ F q ∧ q ≠ X
theorem Pq.ltK (h : Pq w x p R X K t s F G kv cv j) : K < x.heap.size := (Array.getElem?_eq_some_iff.1 h.ring).1
theorem Pq.on (h : Pq w x p R X K t s F G kv cv j) (hb : Below x.heap.size x y) : Pq w y p R X K t s F G kv cv j :=
  ⟨h.pl.on hb, h.ds.on hb, (hb.block K h.ltK).trans h.ring, h.fits, h.room, h.tail, h.offX, h.offK⟩
theorem Pp.on (h : Pp w x p q R X K t s F G kv cv j) (hb : Below x.heap.size x y) : Pp w y p q R X K t s F G kv cv j := ⟨h.pq.on hb, h.sp.on hb, h.offq⟩
theorem Pq.more (h : Pq w x p R X K t s F G kv cv j) (hj : j ≤ j') : Pq w x p R X K t s F G kv cv j' := { h with pl := h.pl.more (by omega), tail := by have := h.tail; omega }
theorem Pp.more (h : Pp w x p q R X K t s F G kv cv j) (hj : j ≤ j') : Pp w x p q R X K t s F G kv cv j' := { h with pq := h.pq.more hj }
/-- A block that none of them lies in turns. -/
theorem Pp.scratch {g : Nat} (h : Pp w x p q R X K t s F G kv cv j) (hg : G g) (hn : ¬ F g) (hq : g ≠ q) (hX : g ≠ X) (ht : Turns (fun k => k = g) x y) : Pp w y p q R X K t s F G kv cv j := by
  have hK : g ≠ K := fun e => h.pq.offK.1 (e ▸ hg)
  exact ⟨⟨h.pq.pl.scratch hg hn ht, h.pq.ds.turn ht fun e => hX e.symm, ht.heap h.pq.ring fun e => hK e.symm, h.pq.fits, h.pq.room, h.pq.tail, h.pq.offX, h.pq.offK⟩, h.sp.turn ht fun e => hq e.symm, h.offq⟩
/-- Another tray, another document's tray. -/
theorem Pq.tray (h : Pq w Y p R X K t s F G kv cv j) (ht : Turns (fun k => G k ∧ k ≠ X) Y z1) (hi : IsT z1 p' 12 t' F') (hs : ∀ k, F' k → F k ∨ Y.heap.size ≤ k) (hb : Below z1.heap.size z1 z2)
    (hk : Stay (fun k => Grow G Y z1 k ∨ k = R) z2 fun x => Ta.IsW x kv' t'.kept) (hc : Stay (fun k => Grow G Y z1 k ∨ k = R) z2 fun x => Ta.IsW x cv' t'.cache) (hf : t'.kept.length + t'.cache.length ≤ 10 * (j + 1)) :
    Pq w (st5 z2 R (.int .i64 ((12 : Nat) : Int)) kv' cv' (.int .i64 t'.left) (.bool t'.dark)) p' R X K t' s F' (Grow G Y z1) kv' cv' (j + 1) := by
  have htG : Turns G Y z1 := ht.mono fun k _ hk => hk.1
  have h5 := Ta.st5_turns z2 R (.int .i64 ((12 : Nat) : Int)) kv' cv' (.int .i64 t'.left) (.bool t'.dark)
  have hXR : X ≠ R := fun e => h.pl.off.2 (e ▸ h.offX.1)
  have hX := h.ds.lt
  have hK := h.ltK
  exact ⟨h.pl.step htG hi hs hb hk hc hf, ((h.ds.turn ht fun e => e.2 rfl).on hb).turn h5 hXR, h5.heap ((hb.block K (Nat.lt_of_lt_of_le hK ht.size)).trans (ht.heap h.ring fun e => h.offK.1 e.1)) h.offK.2.1, h.fits, h.room, by have := h.tail; omega,
    ⟨.inl h.offX.1, fun hx => (hs X hx).elim h.offX.2 fun hx => by omega⟩, ⟨fun hk => hk.elim h.offK.1 fun hk => by omega, h.offK.2⟩⟩
/-- The program's spool and the document's are others. -/
theorem Pq.lay (h : Pq w x p R X K t s F G kv cv j) (hX : DsB y X s') (ht : Turns (fun k => k = X) x y) (hsp : SpB y q p s') (hg : s'.first = s.first ∧ s'.count = s.count) (hfit : Fits s') (htl : s'.tail ≤ 1099511627776 + 100 + 700 * j) (hq : G q ∧ ¬ F q ∧ q ≠ X) : Pp w y p q R X K t s' F G kv cv j := by
  have hK : K ≠ X := fun e => h.offK.1 (e ▸ h.offX.1)
  exact ⟨⟨h.pl.scratch h.offX.1 h.offX.2 ht, hX, by rw [hg.1, hg.2]; exact ht.heap h.ring hK, hfit, by rw [hg.1, hg.2]; exact h.room, htl, h.offX, h.offK⟩, hsp, hq⟩
/-- Behind an append. -/
theorem Pp.append (h : Pp w Y p q R X K t s F G kv cv j) (ht : Turns (fun k => F k ∨ k = q) Y z1) (hsp : SpB z1 q p s') (hi : IsT z1 p 12 t' F') (hs : ∀ k, F' k → F k ∨ Y.heap.size ≤ k) (hb : Below z1.heap.size z1 z2)
    (hk : Stay (fun k => Grow G Y z1 k ∨ k = R) z2 fun x => Ta.IsW x kv' t'.kept) (hc : Stay (fun k => Grow G Y z1 k ∨ k = R) z2 fun x => Ta.IsW x cv' t'.cache) (hf : t'.kept.length + t'.cache.length ≤ 10 * (j + 1))
    (hg : s'.first = s.first ∧ s'.count = s.count) (hfit : Fits s') (htl : s'.tail ≤ 1099511627776 + 100 + 700 * (j + 1)) :
    Pp w (st6 (st5 z2 R (.int .i64 ((12 : Nat) : Int)) kv' cv' (.int .i64 t'.left) (.bool t'.dark)) X s') p q R X K t' s' F' (Grow G Y z1) kv' cv' (j + 1) := by
  have htG : Turns (fun k => G k ∧ k ≠ X) Y z1 := ht.mono fun k _ hk => by
    rcases hk with hk | hk
    · exact ⟨h.pq.pl.sub k hk, fun e => h.pq.offX.2 (e ▸ hk)⟩
    · rw [hk]; exact ⟨h.offq.1, h.offq.2.2⟩
  have h1 := h.pq.tray htG hi hs hb hk hc hf
  have h5 := Ta.st5_turns z2 R (.int .i64 ((12 : Nat) : Int)) kv' cv' (.int .i64 t'.left) (.bool t'.dark)
  have h6 := st6_turns (st5 z2 R (.int .i64 ((12 : Nat) : Int)) kv' cv' (.int .i64 t'.left) (.bool t'.dark)) X s'
  have hqR : q ≠ R := fun e => h.pq.pl.off.2 (e ▸ h.offq.1)
  have hql := h.sp.lt
  exact h1.lay (h1.ds.put s') h6 (((hsp.on hb).turn h5 hqR).turn h6 h.offq.2.2) hg hfit htl ⟨.inl h.offq.1, fun hx => (hs q hx).elim h.offq.2.1 fun hx => by omega, h.offq.2.2⟩
/-- Behind a power. -/
theorem Pp.power (h : Pp w Y p q R X K t s F G kv cv j) (ht : Turns F Y z1) (hi : IsT z1 p 12 t' F) (hb : Below z1.heap.size z1 z2)
    (hk : Stay (fun k => Grow G Y z1 k ∨ k = R) z2 fun x => Ta.IsW x kv' t'.kept) (hc : Stay (fun k => Grow G Y z1 k ∨ k = R) z2 fun x => Ta.IsW x cv' t'.cache) (hf : t'.kept.length + t'.cache.length ≤ 10 * (j + 1)) :
    Pp w (st5 z2 R (.int .i64 ((12 : Nat) : Int)) kv' cv' (.int .i64 t'.left) (.bool t'.dark)) p q R X K t' s F (Grow G Y z1) kv' cv' (j + 1) := by
  have h1 := h.pq.tray (ht.mono fun k _ hk => ⟨h.pq.pl.sub k hk, fun e => h.pq.offX.2 (e ▸ hk)⟩) hi (fun _ hk => .inl hk) hb hk hc hf
  have h5 := Ta.st5_turns z2 R (.int .i64 ((12 : Nat) : Int)) kv' cv' (.int .i64 t'.left) (.bool t'.dark)
  have hqR : q ≠ R := fun e => h.pq.pl.off.2 (e ▸ h.offq.1)
  exact ⟨h1, ((h.sp.turn ht h.offq.2.1).on hb).turn h5 hqR, ⟨.inl h.offq.1, h.offq.2⟩⟩
/-- Behind a cut. -/
theorem Pp.cut (h : Pp w x p q R X K t s F G kv cv j) (ht : Turns (fun k => k = q) x y) (hsp : SpB y q p { s with head := s.tail }) : Pp w (y.setCell ⟨X, 3, none⟩ (.int .i64 (s.tail : Int))) p q R X K t { s with head := s.tail } F G kv cv j := by
  have hK : K ≠ q := fun e => h.pq.offK.1 (e ▸ h.offq.1)
  have h0 : Pq w y p R X K t s F G kv cv j := ⟨h.pq.pl.scratch h.offq.1 h.offq.2.1 ht, h.pq.ds.turn ht fun e => h.offq.2.2 e.symm, ht.heap h.pq.ring hK, h.pq.fits, h.pq.room, h.pq.tail, h.pq.offX, h.pq.offK⟩
  have h3 := turn1 y X 3 (.int .i64 (s.tail : Int))
  refine h0.lay ?_ h3 (hsp.turn h3 h.offq.2.2) ⟨rfl, rfl⟩ ⟨h.pq.fits.count, h.pq.fits.first, Nat.le_refl _, h.pq.fits.tail, h.pq.fits.epoch⟩ h.pq.tail h.offq
  unfold DsB
  rw [h0.ds.set 3 _, show dsC { s with head := s.tail } = (dsC s).setIfInBounds 3 (.int .i64 (s.tail : Int)) by simp [dsC]]
/-- Opened again, or for the first time: the program's spool lies in a new block. -/
theorem Pq.opened (h : Pq w Y p R X K t s F G kv cv j) (hb1 : Below Y.heap.size Y z1) (hsp : SpB z1 q p s') (hq : Y.heap.size ≤ q) (hb2 : Below z1.heap.size z1 z2) (hg : s'.first = s.first ∧ s'.count = s.count) (hfit : Fits s') (htl : s'.tail ≤ 1099511627776 + 100 + 700 * j) :
    Pp w (st6 z2 X s') p q R X K t s' F (Grow G Y z1) kv cv j := by
  have hX := h.ds.lt
  have hK := h.ltK
  have h1 : Pq w z1 p R X K t s F (Grow G Y z1) kv cv j := ⟨pl_grown h.pl hb1, h.ds.on hb1, (hb1.block K hK).trans h.ring, h.fits, h.room, h.tail, ⟨.inl h.offX.1, h.offX.2⟩, ⟨fun hk => hk.elim h.offK.1 fun hk => by omega, h.offK.2⟩⟩
  have h2 := h1.on hb2
  have h6 := st6_turns z2 X s'
  exact h2.lay (h2.ds.put s') h6 ((hsp.on hb2).turn h6 (by omega)) hg hfit htl ⟨.inr ⟨hq, hsp.lt⟩, fun hx => by have := h.pl.is.low q hx; omega, by omega⟩
end
end Sp
end Go.Proofs.Ytkfmmdiflbnhgaa
