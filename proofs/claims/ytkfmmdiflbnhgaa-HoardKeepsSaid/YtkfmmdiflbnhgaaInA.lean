/-
  Cells of new blocks, with what they hold, while nothing that was there turns.
  What of memory a call may turn; and an append to bytes that the call owns: the row that comes back is the old one or a new one.
  Rows of elements of whatever size that a call owns: an append to them; a row cut short; one that stays while other blocks turn.
  The frame of the statements' proofs, for every law of this program: behind a call that only makes new memory each argument reads as it did.
  A region that draws its order, with calls that do as they like within a relation R (what R keeps, the reading operations need): the calls wait for one another; what reads is taken as soon as it may come up, for whatever world is reached along R.
  A region that draws its order, once more (after Order, and the library's OrdersHeld): one condition S on the worlds, which need not hold behind the operations of a list L, each of which waits for what was read: so a cell that the region's last operation stores to may be read first.
  A region that draws its order, a third time (after Ord2): an operation of L need not wait for a read itself: a chain of operations that wait for each other is enough; and an operation that asks nothing of the memory comes first, whatever L says.
-/
import Derived.Test.YtkfmmdiflbnhgaaProg
import Derived.WalkKit
import Derived.WalkSmall
import Derived.BigCall
import Derived.BigQuiet
import Derived.Deep.QuietTactic
import Derived.Lib.Hide
import Derived.IntWalk
import Derived.Lib.AppendStr
import Derived.Lib.UnsafeStr
import Derived.OwnWalk
import Derived.Test.YtkfmmdiflbnhgaaRows
import Derived.ProofKit
import Derived.OpenShut
import Derived.Below
import Derived.ChangeSame
import Derived.Deep.DeepHandedRow
import Derived.Carry
import Derived.Lib.SmallJoins
import Derived.OrdersHeld
import Derived.Deep.RegionHeld3
namespace Go.Proofs.Ytkfmmdiflbnhgaa
set_option maxRecDepth 100000
open Go.RowKit
namespace Who
/-- Cells of new blocks, with what they hold; nothing that was there has turned. -/
def Held (w : World) (L : List (Addr × Value)) (x : World) : Prop :=
  Below w.heap.size w x ∧ ∀ p ∈ L, p.1.block < x.heap.size ∧ x.cell? p.1 = some p.2 ∧ x.frozen? p.1 = false
theorem Held.below {w x : World} {L : List (Addr × Value)} (h : Held w L x) : Below w.heap.size w x := h.1
theorem Held.all {w x : World} {L : List (Addr × Value)} (h : Held w L x) : ∀ p ∈ L, p.1.block < x.heap.size ∧ x.cell? p.1 = some p.2 ∧ x.frozen? p.1 = false := h.2
theorem Held.step {w x y : World} {L : List (Addr × Value)} (hb : Below x.heap.size x y) (h : Held w L x) : Held w L y :=
  ⟨h.1.trans (hb.mono h.1.size), fun p hp => by
    obtain ⟨h1, h2, h3⟩ := h.2 p hp
    exact ⟨Nat.lt_of_lt_of_le h1 hb.size, (hb.cell h1).trans h2, (hb.frozen h1).trans h3⟩⟩
theorem Held.drew {w x : World} {L : List (Addr × Value)} (h : Held w L x) : Held w L x.drew := ⟨⟨h.1.os, h.1.tape, h.1.output, h.1.size, h.1.block⟩, h.2⟩

theorem Held.one3 (w : World) (T : TypeId) (a0 a1 a2 : Value) :
    Held w [(⟨w.heap.size, 0, none⟩, a0), (⟨w.heap.size, 1, none⟩, a1), (⟨w.heap.size, 2, none⟩, a2)] (w.alloc (.cells #[a0, a1, a2] T)) := by
  refine ⟨((Below.refl _ _).alloc (Nat.le_refl _) _), ?_⟩
  simp only [List.forall_mem_cons]
  simp
theorem Held.more3 {w x : World} {L : List (Addr × Value)} (h : Held w L x) (T : TypeId) (b0 b1 b2 : Value) :
    Held w ((⟨x.heap.size, 0, none⟩, b0) :: (⟨x.heap.size, 1, none⟩, b1) :: (⟨x.heap.size, 2, none⟩, b2) :: L) (x.alloc (.cells #[b0, b1, b2] T)) := by
  refine ⟨h.1.alloc h.1.size _, ?_⟩
  have hs := (Held.step ((Below.refl x.heap.size x).alloc (Nat.le_refl _) (.cells #[b0, b1, b2] T)) h).2
  simp only [List.forall_mem_cons]
  refine ⟨?_, ?_, ?_, hs⟩ <;> simp
theorem Held.more2 {w x : World} {L : List (Addr × Value)} (h : Held w L x) (T : TypeId) (b0 b1 : Value) :
    Held w ((⟨x.heap.size, 0, none⟩, b0) :: (⟨x.heap.size, 1, none⟩, b1) :: L) (x.alloc (.cells #[b0, b1] T)) := by
  refine ⟨h.1.alloc h.1.size _, ?_⟩
  have hs := (Held.step ((Below.refl x.heap.size x).alloc (Nat.le_refl _) (.cells #[b0, b1] T)) h).2
  simp only [List.forall_mem_cons]
  refine ⟨?_, ?_, hs⟩ <;> simp
theorem Held.one2 (w : World) (T : TypeId) (a0 a1 : Value) :
    Held w [(⟨w.heap.size, 0, none⟩, a0), (⟨w.heap.size, 1, none⟩, a1)] (w.alloc (.cells #[a0, a1] T)) := by
  refine ⟨((Below.refl _ _).alloc (Nat.le_refl _) _), ?_⟩
  simp only [List.forall_mem_cons]
  simp
end Who
end Go.Proofs.Ytkfmmdiflbnhgaa

namespace Go.Proofs.Ytkfmmdiflbnhgaa
set_option maxRecDepth 100000
open Go.RowKit
namespace Knot

/-- Of the blocks that were there only those of F may have turned. -/
structure Turns (F : Nat → Prop) (w x : World) : Prop where
  os : x.os = w.os
  tape : x.tape = w.tape
  output : x.output = w.output
  size : w.heap.size ≤ x.heap.size
  block : ∀ k, k < w.heap.size → ¬ F k → x.heap[k]? = w.heap[k]?

theorem Turns.refl (F : Nat → Prop) (w : World) : Turns F w w := ⟨rfl, rfl, rfl, Nat.le_refl _, fun _ _ _ => rfl⟩
theorem Turns.mono {F G : Nat → Prop} {w x : World} (h : Turns F w x) (hF : ∀ k, k < w.heap.size → F k → G k) : Turns G w x :=
  ⟨h.os, h.tape, h.output, h.size, fun k hk hn => h.block k hk fun hf => hn (hF k hk hf)⟩
theorem Turns.trans {F G : Nat → Prop} {w x y : World} (h : Turns F w x) (h2 : Turns G x y) (hG : ∀ k, k < w.heap.size → G k → F k) : Turns F w y :=
  ⟨h2.os.trans h.os, h2.tape.trans h.tape, h2.output.trans h.output, Nat.le_trans h.size h2.size,
    fun k hk hn => (h2.block k (Nat.lt_of_lt_of_le hk h.size) fun hg => hn (hG k hk hg)).trans (h.block k hk hn)⟩
theorem Turns.of_below {F : Nat → Prop} {w x : World} (h : Below w.heap.size w x) : Turns F w x :=
  ⟨h.os, h.tape, h.output, h.size, fun k hk _ => h.block k hk⟩
theorem Turns.then_below {F : Nat → Prop} {w x y : World} (h : Turns F w x) (h2 : Below x.heap.size x y) : Turns F w y := h.trans (Turns.of_below (F := F) h2) fun _ _ h => h
theorem Turns.after_below {F : Nat → Prop} {w x y : World} (h : Below w.heap.size w x) (h2 : Turns F x y) : Turns F w y := (Turns.of_below (F := F) h).trans h2 fun _ _ h => h
theorem Turns.below {F : Nat → Prop} {B : Nat} {w x : World} (h : Turns F w x) (hB : B ≤ w.heap.size) (hF : ∀ k, F k → B ≤ k) : Below B w x :=
  ⟨h.os, h.tape, h.output, h.size, fun k hk => h.block k (by omega) fun hf => by have := hF k hf; omega⟩
theorem Turns.of_grown {F : Nat → Prop} {w x : World} {row : Option Nat} (h : w.grownBy x row) (hF : ∀ k, row = some k → F k) : Turns F w x :=
  ⟨h.os, h.tape, h.output, h.size, fun k hk hn => h.block k hk fun e => hn (hF k e.symm)⟩
theorem Turns.setCell {F : Nat → Prop} {w x : World} (h : Turns F w x) {p : Addr} (hp : F p.block) (v : Value) : Turns F w (x.setCell p v) :=
  h.trans (G := fun k => k = p.block) ⟨rfl, rfl, rfl, by simp [World.setCell], fun k _ hn => Below.heap_setCell _ _ _ _ hn⟩ fun k _ e => by rw [e]; exact hp
theorem Turns.setNew {F : Nat → Prop} {w x : World} (h : Turns F w x) {p : Addr} (hp : w.heap.size ≤ p.block) (v : Value) : Turns F w (x.setCell p v) :=
  ⟨h.os, h.tape, h.output, by have := h.size; simpa [World.setCell] using this, fun k hk hn => (Below.heap_setCell _ _ _ _ (by omega)).trans (h.block k hk hn)⟩
/-- A new block that a call's own things lie in. -/
theorem Turns.heap {F : Nat → Prop} {w x : World} (h : Turns F w x) {k : Nat} {o : Obj} (hk : w.heap[k]? = some o) (hn : ¬ F k) : x.heap[k]? = some o := (h.block k (Array.getElem?_eq_some_iff.1 hk).1 hn).trans hk
theorem Turns.alloc {F : Nat → Prop} {w x : World} (h : Turns F w x) (o : Obj) : Turns F w (x.alloc o) := h.then_below ((Below.refl _ _).alloc (Nat.le_refl _) o)
theorem Turns.cell {F : Nat → Prop} {w x : World} (h : Turns F w x) {p : Addr} (hp : p.block < w.heap.size) (hn : ¬ F p.block) : x.cell? p = w.cell? p := World.cell?_of_block (w := w) (h.block p.block hp hn)
theorem Turns.frozen {F : Nat → Prop} {w x : World} (h : Turns F w x) {p : Addr} (hp : p.block < w.heap.size) (hn : ¬ F p.block) : x.frozen? p = w.frozen? p := World.frozen?_of_block (w := w) (h.block p.block hp hn)

/-! ### appends -/
/-- A type of bytes, and of lists of them. -/
structure IsBytes (P : Program) (t e : TypeId) (i : TypeInfo) : Prop where
  under : P.underlying t = some (.slice e)
  info : P.info? e = some i
  zero : i.zero = some (.int .u8 0)
  size : i.size = 1
  bytes : i.bytes = 1
/-- The row is the old one, or a new one. -/
def NewRow (w : World) (v v' : Value) : Prop := ∀ k, v'.ownBlock = some k → v.ownBlock = some k ∨ w.heap.size ≤ k
theorem NewRow.refl (w : World) (v : Value) : NewRow w v v := fun _ h => .inl h

section
variable {P : Program} {w : World} {t e : TypeId} {i : TypeInfo}
theorem append_row (T : IsBytes P t e i) (ty : TypeId) {B n m c : Nat} {v : Value} {xs news : List Value} {ad : Addr} (hown : w.ownsRow B e 1 v n xs) (hB : B ≤ w.heap.size)
    (hl : news.length = m) (hn : ∀ j u, news[j]? = some u → w.cell? (ad.add j) = some u) (h1 : ∀ u ∈ news, u.oneCell' = true) (hs : n + m ≤ 100000000) :
    ∃ v' x, (Builtin.append_ #[t, t] ty #[v, .slice (some ad) m c]).run P w = .ok v' x ∧ x.ownsRow B e 1 v' (n + m) (xs ++ news) ∧ w.grownBy x v.ownBlock ∧ NewRow w v v' := by
  have key := fun b hb ho => run_append_own (P := P) w b t ty e i (.int .u8 0) 1 1 T.under T.info T.zero T.size T.bytes rfl (by decide) v n xs ho ad m c news (by omega) hn h1 (by unfold maxLen; omega) (by omega) hb
  obtain ⟨v', x, hr, h2, h3, -⟩ := key B hB hown
  refine ⟨v', x, hr, h2, h3, ?_⟩
  have hrow := hown.2
  rcases hrow with ⟨rfl, rfl⟩ | ⟨g, cap, cur, rfl, hbg, hg, hnc, hcm, hcs, htake⟩
  · have hx : xs = [] := List.eq_nil_of_length_eq_zero (by simpa using hown.1)
    subst hx
    obtain ⟨v2, x2, hr2, h22, -, -⟩ := key w.heap.size (Nat.le_refl _) (World.ownsRow_nil _ _ _ _)
    obtain ⟨rfl, rfl⟩ := Result.ok.inj (hr.symm.trans hr2)
    exact fun k hk => .inr (h22.lt k hk).1
  · by_cases hroom : n + m ≤ cap
    · have hr2 := run_append_room (P := P) w t ty e i T.under T.info g n cap cur hg ad m c news (by rw [T.size]; omega) hn h1 hroom (by rw [T.size, hcs]; omega)
      obtain ⟨rfl, rfl⟩ := Result.ok.inj (hr.symm.trans hr2)
      exact fun k hk => .inl hk
    · have holds : ∀ j u, xs[j]? = some u → w.cell? ((⟨g, 0, none⟩ : Addr).add j) = some u := hown.cells (g := g) rfl
      have hr2 := run_append_grow (P := P) w t ty e i (.int .u8 0) T.under T.info T.zero ⟨g, 0, none⟩ n cap xs (by rw [T.size]; exact hown.1) holds ad m c news (by rw [T.size]; omega) hn (by omega) (by omega) (growslice_fits (by omega) (by rw [T.bytes]; omega))
      obtain ⟨rfl, rfl⟩ := Result.ok.inj (hr.symm.trans hr2)
      intro k hk
      have e1 : w.heap.size = k := Option.some.inj hk
      exact .inr (by omega)

theorem append_text (T : IsBytes P t e i) {u : TypeId} (hu : P.underlying u = some .string) (ty : TypeId) {B n : Nat} {v : Value} {xs : List Value} (hown : w.ownsRow B e 1 v n xs) (hB : B ≤ w.heap.size) (s : ByteArray) (hs : n + s.size ≤ 100000000) :
    ∃ v' x, (Builtin.append_ #[t, u] ty #[v, .string s]).run P w = .ok v' x ∧ x.ownsRow B e 1 v' (n + s.size) (xs ++ Lib.byteCells s.data.toList) ∧ w.grownBy x v.ownBlock ∧ NewRow w v v' := by
  have key := fun b hb ho => Lib.run_append_own_string (P := P) w b t u ty e i T.under hu T.info T.zero T.size T.bytes v n xs ho s (by unfold maxLen; omega) (by omega) hb
  obtain ⟨v', x, hr, h2, h3, -⟩ := key B hB hown
  refine ⟨v', x, hr, h2, h3, ?_⟩
  have hrow := hown.2
  rcases hrow with ⟨rfl, rfl⟩ | ⟨g, cap, cur, rfl, hbg, hg, hnc, hcm, hcs, htake⟩
  · have hx : xs = [] := List.eq_nil_of_length_eq_zero (by simpa using hown.1)
    subst hx
    obtain ⟨v2, x2, hr2, h22, -, -⟩ := key w.heap.size (Nat.le_refl _) (World.ownsRow_nil _ _ _ _)
    obtain ⟨rfl, rfl⟩ := Result.ok.inj (hr.symm.trans hr2)
    exact fun k hk => .inr (h22.lt k hk).1
  · by_cases hroom : n + s.size ≤ cap
    · have hr2 := Lib.run_append_room_string (P := P) w t u ty e i T.under hu T.info T.size g n cap cur hg s hroom (by omega)
      obtain ⟨rfl, rfl⟩ := Result.ok.inj (hr.symm.trans hr2)
      exact fun k hk => .inl hk
    · have holds : ∀ j u, xs[j]? = some u → w.cell? ((⟨g, 0, none⟩ : Addr).add j) = some u := hown.cells (g := g) rfl
      have hr2 := Lib.run_append_grow_string (P := P) w t u ty e i (.int .u8 0) T.under hu T.info T.zero ⟨g, 0, none⟩ n cap xs (by rw [T.size]; exact hown.1) holds s (by omega) (by omega) (growslice_fits (by omega) (by rw [T.bytes]; omega))
      obtain ⟨rfl, rfl⟩ := Result.ok.inj (hr.symm.trans hr2)
      intro k hk
      have e1 : w.heap.size = k := Option.some.inj hk
      exact .inr (by omega)

section
variable {ops : Array Oper} {rest : List Oper} {o : Oper} {a : Act} {Q : Exit → Act → World → Prop}
/-- For the walk: bytes behind bytes. -/
theorem walk_row (T : IsBytes P t e i) (hgd : o.guard = none) (s x : Operand) (ho : o.op = .call { callee := .builtin .append, args := #[s, x], argTypes := #[t, t] })
    {B n m c : Nat} {v : Value} {xs news : List Value} {ad : Addr} (hs : a.eval s = v) (hx : a.eval x = .slice (some ad) m c) (hown : w.ownsRow B e 1 v n xs) (hB : B ≤ w.heap.size)
    (hl : news.length = m) (hn : ∀ j u, news[j]? = some u → w.cell? (ad.add j) = some u) (h1 : ∀ u ∈ news, u.oneCell' = true) (hz : n + m ≤ 100000000)
    (h : ∀ v' y, y.ownsRow B e 1 v' (n + m) (xs ++ news) → w.grownBy y v.ownBlock → NewRow w v v' → wpList P ops Q rest (a.put o.dst v') y) : wpList P ops Q (o :: rest) a w := by
  refine wpList_plain hgd fun K hK => ?_
  obtain ⟨v', y, hr, h2, h3, h4⟩ := append_row T o.type hown hB hl hn h1 hz (c := c)
  unfold Oper.wp execOp
  simp only [ho, resolve, invoke, builtin, Sem.run_bind, Sem.run_pure, Result.andThen_ok, List.map_toArray, List.map_cons, List.map_nil, hs, hx, hr]
  exact hK _ _ (h v' y h2 h3 h4)
/-- For the walk: a text's bytes behind bytes. -/
theorem walk_text (T : IsBytes P t e i) {u : TypeId} (hu : P.underlying u = some .string) (hgd : o.guard = none) (s x : Operand) (ho : o.op = .call { callee := .builtin .append, args := #[s, x], argTypes := #[t, u] })
    {B n : Nat} {v : Value} {xs : List Value} {z : ByteArray} (hs : a.eval s = v) (hx : a.eval x = .string z) (hown : w.ownsRow B e 1 v n xs) (hB : B ≤ w.heap.size) (hz : n + z.size ≤ 100000000)
    (h : ∀ v' y, y.ownsRow B e 1 v' (n + z.size) (xs ++ Lib.byteCells z.data.toList) → w.grownBy y v.ownBlock → NewRow w v v' → wpList P ops Q rest (a.put o.dst v') y) : wpList P ops Q (o :: rest) a w := by
  refine wpList_plain hgd fun K hK => ?_
  obtain ⟨v', y, hr, h2, h3, h4⟩ := append_text T hu o.type hown hB z hz
  unfold Oper.wp execOp
  simp only [ho, resolve, invoke, builtin, Sem.run_bind, Sem.run_pure, Result.andThen_ok, List.map_toArray, List.map_cons, List.map_nil, hs, hx, hr]
  exact hK _ _ (h v' y h2 h3 h4)
end
end
end Knot
end Go.Proofs.Ytkfmmdiflbnhgaa

namespace Go.Proofs.Ytkfmmdiflbnhgaa
set_option maxRecDepth 100000
open Go.RowKit
namespace Tr
open Knot (Turns NewRow)

/-- A type of lists, and of their elements. -/
structure IsElem (P : Program) (t e : TypeId) (i : TypeInfo) (z : Value) (c b : Nat) : Prop where
  under : P.underlying t = some (.slice e)
  info : P.info? e = some i
  zero : i.zero = some z
  size : i.size = c
  bytes : i.bytes = b
  cells : z.cells.size = c
  pos : 0 < c
section
variable {P : Program} {w : World} {t e : TypeId} {i : TypeInfo} {z : Value} {sz by' : Nat}
theorem append_rows (T : IsElem P t e i z sz by') (ty : TypeId) {B n m c : Nat} {v : Value} {xs news : List Value} {ad : Addr} (hown : w.ownsRow B e sz v n xs) (hB : B ≤ w.heap.size)
    (hl : news.length = m * sz) (hn : ∀ j u, news[j]? = some u → w.cell? (ad.add j) = some u) (h1 : ∀ u ∈ news, u.oneCell' = true) (hs : n + m ≤ 100000000) (hb : (n + m) * by' ≤ 140737488355328) :
    ∃ v' x, (Builtin.append_ #[t, t] ty #[v, .slice (some ad) m c]).run P w = .ok v' x ∧ x.ownsRow B e sz v' (n + m) (xs ++ news) ∧ w.grownBy x v.ownBlock ∧ NewRow w v v' := by
  have key := fun b hb' ho => run_append_own (P := P) w b t ty e i z sz by' T.under T.info T.zero T.size T.bytes T.cells T.pos v n xs ho ad m c news hl hn h1 (by unfold maxLen; omega) hb hb'
  obtain ⟨v', x, hr, h2, h3, -⟩ := key B hB hown
  refine ⟨v', x, hr, h2, h3, ?_⟩
  have hrow := hown.2
  rcases hrow with ⟨rfl, rfl⟩ | ⟨g, cap, cur, rfl, hbg, hg, hnc, hcm, hcs, htake⟩
  · have hx : xs = [] := List.eq_nil_of_length_eq_zero (by simpa using hown.1)
    subst hx
    obtain ⟨v2, x2, hr2, h22, -, -⟩ := key w.heap.size (Nat.le_refl _) (World.ownsRow_nil _ _ _ _)
    obtain ⟨rfl, rfl⟩ := Result.ok.inj (hr.symm.trans hr2)
    exact fun k hk => .inr (h22.lt k hk).1
  · by_cases hroom : n + m ≤ cap
    · have hfit : n * i.size + news.length ≤ cur.size := by rw [T.size, hl, hcs, ← Nat.add_mul]; exact Nat.mul_le_mul_right _ hroom
      have hr2 := run_append_room (P := P) w t ty e i T.under T.info g n cap cur hg ad m c news (by rw [T.size]; exact hl) hn h1 hroom hfit
      obtain ⟨rfl, rfl⟩ := Result.ok.inj (hr.symm.trans hr2)
      exact fun k hk => .inl hk
    · have holds : ∀ j u, xs[j]? = some u → w.cell? ((⟨g, 0, none⟩ : Addr).add j) = some u := hown.cells (g := g) rfl
      have hr2 := run_append_grow (P := P) w t ty e i z T.under T.info T.zero ⟨g, 0, none⟩ n cap xs (by rw [T.size]; exact hown.1) holds ad m c news (by rw [T.size]; exact hl) hn (by omega) (by omega) (growslice_fits (by omega) (by rw [T.bytes]; exact hb))
      obtain ⟨rfl, rfl⟩ := Result.ok.inj (hr.symm.trans hr2)
      intro k hk
      have e1 : w.heap.size = k := Option.some.inj hk
      exact .inr (by omega)
section
variable {ops : Array Oper} {rest : List Oper} {o : Oper} {a : Act} {Q : Exit → Act → World → Prop}
/-- Nothing behind elements. -/
theorem append_none (T : IsElem P t e i z sz by') (ty : TypeId) {B n : Nat} {v : Value} {xs : List Value} (hown : w.ownsRow B e sz v n xs) (hs : n ≤ 100000000) :
    (Builtin.append_ #[t, t] ty #[v, .slice none 0 0]).run P w = .ok v w := by
  rcases hown.2 with ⟨rfl, rfl⟩ | ⟨g, cap, cur, rfl, hbg, hg, hnc, hcm, hcs, htake⟩
  · simp [Builtin.append_, run_underlying T.under, sizeOf, typeInfo, T.info, Builtin.lenOf, Builtin.firstCells]
  · have h1 : ¬ (9223372036854775807 < (n : Int)) := by omega
    simp [Builtin.append_, run_underlying T.under, sizeOf, typeInfo, T.info, Builtin.lenOf, Builtin.firstCells, loadCells, hnc, storeCells]
theorem wp_none {K : Act → World → Prop} (T : IsElem P t e i z sz by') (s x : Operand) (ho : o.op = .call { callee := .builtin .append, args := #[s, x], argTypes := #[t, t] })
    {B n : Nat} {v : Value} {xs : List Value} (hs : a.eval s = v) (hx : a.eval x = .slice none 0 0) (hown : w.ownsRow B e sz v n xs) (hz : n ≤ 100000000) (h : K (a.put o.dst v) w) : o.wp P a w K Q := by
  have hr := append_none T o.type hown hz
  unfold Oper.wp execOp
  simp only [ho, resolve, invoke, builtin, Sem.run_bind, Sem.run_pure, Result.andThen_ok, List.map_toArray, List.map_cons, List.map_nil, hs, hx, hr]
  exact h
/-- Elements behind elements, an operation alone. -/
theorem wp_rows {K : Act → World → Prop} (T : IsElem P t e i z sz by') (s x : Operand) (ho : o.op = .call { callee := .builtin .append, args := #[s, x], argTypes := #[t, t] })
    {B n m c : Nat} {v : Value} {xs news : List Value} {ad : Addr} (hs : a.eval s = v) (hx : a.eval x = .slice (some ad) m c) (hown : w.ownsRow B e sz v n xs) (hB : B ≤ w.heap.size)
    (hl : news.length = m * sz) (hn : ∀ j u, news[j]? = some u → w.cell? (ad.add j) = some u) (h1 : ∀ u ∈ news, u.oneCell' = true) (hz : n + m ≤ 100000000) (hb : (n + m) * by' ≤ 140737488355328)
    (h : ∀ v' y, y.ownsRow B e sz v' (n + m) (xs ++ news) → w.grownBy y v.ownBlock → NewRow w v v' → K (a.put o.dst v') y) : o.wp P a w K Q := by
  obtain ⟨v', y, hr, h2, h3, h4⟩ := append_rows T o.type hown hB hl hn h1 hz hb (c := c)
  unfold Oper.wp execOp
  simp only [ho, resolve, invoke, builtin, Sem.run_bind, Sem.run_pure, Result.andThen_ok, List.map_toArray, List.map_cons, List.map_nil, hs, hx, hr]
  exact h v' y h2 h3 h4
/-- For the walk: elements behind elements. -/
theorem walk_rows (T : IsElem P t e i z sz by') (hgd : o.guard = none) (s x : Operand) (ho : o.op = .call { callee := .builtin .append, args := #[s, x], argTypes := #[t, t] })
    {B n m c : Nat} {v : Value} {xs news : List Value} {ad : Addr} (hs : a.eval s = v) (hx : a.eval x = .slice (some ad) m c) (hown : w.ownsRow B e sz v n xs) (hB : B ≤ w.heap.size)
    (hl : news.length = m * sz) (hn : ∀ j u, news[j]? = some u → w.cell? (ad.add j) = some u) (h1 : ∀ u ∈ news, u.oneCell' = true) (hz : n + m ≤ 100000000) (hb : (n + m) * by' ≤ 140737488355328)
    (h : ∀ v' y, y.ownsRow B e sz v' (n + m) (xs ++ news) → w.grownBy y v.ownBlock → NewRow w v v' → wpList P ops Q rest (a.put o.dst v') y) : wpList P ops Q (o :: rest) a w := by
  refine wpList_plain hgd fun K hK => ?_
  obtain ⟨v', y, hr, h2, h3, h4⟩ := append_rows T o.type hown hB hl hn h1 hz hb (c := c)
  unfold Oper.wp execOp
  simp only [ho, resolve, invoke, builtin, Sem.run_bind, Sem.run_pure, Result.andThen_ok, List.map_toArray, List.map_cons, List.map_nil, hs, hx, hr]
  exact hK _ _ (h v' y h2 h3 h4)
end
end
theorem addp (b o i : Nat) : (⟨b, o, none⟩ : Addr).add i = ⟨b, o + i, none⟩ := by unfold Addr.add; split <;> simp_all
section
variable {w x : World} {B n c : Nat} {e : TypeId} {v : Value} {xs : List Value}
theorem own_turn {F : Nat → Prop} (h : w.ownsRow B e c v n xs) (ht : Turns F w x) (hF : ∀ k, v.ownBlock = some k → ¬ F k) : x.ownsRow B e c v n xs := by
  refine ⟨h.1, ?_⟩
  rcases h.2 with hn | ⟨g, cap, cur, rfl, hb, hg, r⟩
  · exact .inl hn
  · exact .inr ⟨g, cap, cur, rfl, hb, (ht.block g (Array.getElem?_eq_some_iff.1 hg).1 (hF g rfl)).trans hg, r⟩
theorem own_below (h : w.ownsRow B e c v n xs) (hb : Below w.heap.size w x) : x.ownsRow B e c v n xs := own_turn (F := fun _ => False) h (Turns.of_below hb) fun _ _ h => h
theorem own_slice (h : w.ownsRow B e c v n xs) : ∃ ao cap, v = .slice ao n cap := by
  rcases h.2 with ⟨rfl, rfl⟩ | ⟨g, cap, cur, rfl, _⟩
  · exact ⟨_, _, rfl⟩
  · exact ⟨_, _, rfl⟩
/-- A row that isn't empty: where it lies. -/
theorem own_open (h : w.ownsRow B e c v (n + 1) xs) : ∃ g cap, v = .slice (some ⟨g, 0, none⟩) (n + 1) cap ∧ B ≤ g ∧ g < w.heap.size ∧ n + 1 ≤ cap ∧ ∀ j u, xs[j]? = some u → w.cell? ⟨g, j, none⟩ = some u := by
  rcases h.2 with ⟨-, h0⟩ | ⟨g, cap, cur, rfl, hb, hg, hn, -⟩
  · omega
  · refine ⟨g, cap, rfl, hb, (Array.getElem?_eq_some_iff.1 hg).1, hn, fun j u hu => ?_⟩
    have := h.cells (g := g) rfl j u hu
    rwa [addp, Nat.zero_add] at this
/-- A row without its last elements. -/
theorem own_cut {g cap m : Nat} (h : w.ownsRow B e c (.slice (some ⟨g, 0, none⟩) n cap) n xs) (hm : m ≤ n) : w.ownsRow B e c (.slice (some ⟨g, 0, none⟩) m cap) m (xs.take (m * c)) := by
  have hle : m * c ≤ n * c := Nat.mul_le_mul_right _ hm
  refine ⟨by rw [List.length_take, h.1]; omega, ?_⟩
  rcases h.2 with ⟨h0, -⟩ | ⟨g', cap', cur, hv, hb, hg, hn, hcm, hcs, htk⟩
  · cases h0
  · obtain ⟨hg1, -, rfl⟩ : some (⟨g, 0, none⟩ : Addr) = some ⟨g', 0, none⟩ ∧ n = n ∧ cap = cap' := by simpa using hv
    obtain rfl : g = g' := by simpa using hg1
    exact .inr ⟨g, cap, cur, rfl, hb, hg, by omega, hcm, hcs, by rw [← htk, List.take_take, Nat.min_eq_left hle]⟩
end
end Tr
end Go.Proofs.Ytkfmmdiflbnhgaa

namespace Go.Proofs.Ytkfmmdiflbnhgaa.Frame
set_option maxRecDepth 100000
open Go.ChangeShapes Go.WideShapes Go.ChangeAt Go.RowKit

theorem own : ownKnob Try.prog.godebug = none := by kernel_rfl
theorem laidOut : laidOutB Try.prog = true := by kernel_rfl

section
variable {H : Type} {enc : TypeId × Value → H} {P : Program}
theorem trodAll_below (hl : laidOutB P = true) {W W' : World} (hb : Below W.heap.size W W') (sp : Nat → Bool) : ∀ {ts : List TypeId} {vs : List Value} {ds : List (DataW H)} {ps : List MemPlace},
    (∀ t ∈ ts, P.readableRec t = true ∧ t < P.types.size) → DataW.TrodAll enc P W 0 (fun _ => true) true ts vs ds ps → (∀ x ∈ ps, x.block < W.heap.size) → (∀ x ∈ ps, sp x.block = true) →
    DataW.TrodAll enc P W' 0 sp true ts vs ds ps
  | [], [], [], ps, _, h, _, _ => by
    have e : ps = [] := h
    subst e
    exact trodAll_mk0
  | t :: ts, v :: vs, d :: ds, ps, hr, h, hlt, hsp => by
    obtain ⟨p, p', h0, hs, e⟩ := h
    subst e
    refine trodAll_cons_mk ?_ (trodAll_below hl hb sp (fun t ht => hr t (List.mem_cons_of_mem _ ht)) hs (fun x hx => hlt x (List.mem_append.2 (Or.inr hx))) (fun x hx => hsp x (List.mem_append.2 (Or.inr hx))))
    obtain ⟨h1, h2⟩ := hr t (List.mem_cons_self ..)
    exact WideElems.Trod_stays hl h1 h2 h0 (fun x hx => hb.same (hlt x (List.mem_append.2 (Or.inl hx)))) (fun x hx => hsp x (List.mem_append.2 (Or.inl hx)))

/-- The row's last step: a law that answers true. -/
theorem post_true {f : Func} {s : ChangeSpec} {W W' : World} {args : Array Value} {ds : List (DataW H)} {before : List MemPlace} {tb : TypeId}
    (hl : laidOutB P = true) (hr : ∀ t ∈ f.params.toList, P.readableRec t = true ∧ t < P.types.size) (htb : P.underlying tb = some .bool) (hres : f.resultTypes = #[tb]) (hv : s.vars = [])
    (hfn : s.fn H (ds ++ []) = { results := [.lit (.bool true)], args := ds })
    (hW : DataW.Whole enc P f.params.toList s.vars false W args.toList ds [] before) (hb : Below W.heap.size W W') :
    s.post enc P f false true false false W args (.bool true) W' := by
  obtain ⟨pa, pv, hA, hV, e, hz, hn⟩ := hW
  rw [hv] at hV
  have hpv : pv = [] := by
    have := trodVars_none hV
    simpa using this.2
  subst hpv
  have hW' : DataW.Whole enc P f.params.toList s.vars false W args.toList ds [] before := ⟨pa, [], hA, by rw [hv]; exact hV, e, hz, hn⟩
  have hlt : ∀ p ∈ before, p.block < W.heap.size := fun p hp => hW'.lt p hp
  have e' : before = pa := by rw [e, List.append_nil]
  subst e'
  have hres' : ∀ sp (hd : Bool), DataW.TrodAll enc P W' 0 sp hd f.resultTypes.toList ((Value.bool true).resultList f.resultTypes.size) (s.fn H (ds ++ [])).results [] := fun sp hd => by
    rw [hres, hfn]
    exact trodAll_cons_mk (shut_bool htb _) trodAll_mk0
  refine ⟨ds, [], before, [], before, [], hW', ?_, ?_, ?_, ?_, fun h => by cases h⟩
  · rw [hres, hfn]
    exact trodAll_cons_mk (shut_bool htb _) trodAll_mk0
  · rw [hfn]
    exact trodAll_below hl hb _ hr hA hlt (fun x hx => by simpa using hlt x hx)
  · rw [hv, hfn]
    rfl
  · exact World.keptBut_mono (fun p hp => ⟨hp, by simpa using hp⟩) (hb.frame (· ∈ before))
end
end Go.Proofs.Ytkfmmdiflbnhgaa.Frame

namespace Go.Proofs.Ytkfmmdiflbnhgaa
set_option maxRecDepth 100000
open Go.RowKit
namespace Order

section
variable {P : Program} {ops : Array Oper} {Q : Exit → Act → World → Prop} {md : Region.Mode}
theorem any_mono {S T : World → Prop} (h : ∀ x, S x → T x) : ∀ (fuel : Nat) (listed : Array Bool) (a : Act) (w : World), wpAnyH P md ops Q S fuel listed a w → wpAnyH P md ops Q T fuel listed a w
  | 0, _, _, _, k => k
  | fuel + 1, _, _, _, k => ⟨k.1, fun i hi => wpOp_mono (fun a' w' k' => ⟨h _ k'.1, any_mono h fuel _ a' w' k'.2⟩) (k.2 i hi)⟩

/-- Operations that read, one behind the other. -/
def Reads (P : Program) (ops : Array Oper) (S : World → Prop) (K : Act → Prop) : List Oper → Act → Prop
  | [], a => K a
  | o :: rest, a => (Region.wanted o (yielded ops a.tmps) = true ∧ ∃ v, (∀ x, S x → (execOp a.eval o).run P x = .ok (.value v) x) ∧ Reads P ops S K rest (a.put o.dst v)) ∨
      (Region.wanted o (yielded ops a.tmps) = false ∧ Reads P ops S K rest (a.put o.dst undef))
theorem reads_on {S : World → Prop} {K : Act → Prop} {o : Oper} {rest : List Oper} {a : Act} {v : Value} (hw : Region.wanted o (yielded ops a.tmps) = true) (h : ∀ x, S x → (execOp a.eval o).run P x = .ok (.value v) x)
    (k : Reads P ops S K rest (a.put o.dst v)) : Reads P ops S K (o :: rest) a := .inl ⟨hw, v, h, k⟩
theorem reads_off {S : World → Prop} {K : Act → Prop} {o : Oper} {rest : List Oper} {a : Act} (hw : Region.wanted o (yielded ops a.tmps) = false)
    (k : Reads P ops S K rest (a.put o.dst undef)) : Reads P ops S K (o :: rest) a := .inr ⟨hw, k⟩
theorem reads_end {S : World → Prop} {K : Act → Prop} {a : Act} (h : K a) : Reads P ops S K [] a := h

/-- Each may come up in its turn, and is apart from all that doesn't wait for it. -/
def readsB (md : Region.Mode) (ops : Array Oper) : List Nat → Array Bool → Bool
  | [], _ => true
  | i :: rest, listed => (Region.ready md ops listed).contains i && Region.free md ops listed i && readsB md ops rest (listed.setIfInBounds i true)
def listedBy : List Nat → Array Bool → Array Bool
  | [], l => l
  | i :: rest, l => listedBy rest (l.setIfInBounds i true)
def pick (ops : Array Oper) : List Nat → List Oper
  | [] => []
  | i :: rest => match ops[i]? with
    | some o => o :: pick ops rest
    | none => pick ops rest

theorem reads_any {S : World → Prop} {w : World} (hs : Region.noSelect ops = true) (hS : S w) (hQ : ∀ c d v a w, Q (.panic c) (Act.put a d v) w → Q (.panic c) a w) (fuel : Nat) : ∀ (idx : List Nat) (listed : Array Bool) (a : Act),
    readsB md ops idx listed = true → Reads P ops S (fun a' => wpAnyH P md ops Q S fuel (listedBy idx listed) a' w) (pick ops idx) a → wpAnyH P md ops Q S (fuel + idx.length) listed a w
  | [], _, _, _, h => h
  | i :: rest, listed, a, hB, h => by
    simp only [readsB, Bool.and_eq_true] at hB
    obtain ⟨⟨hr, hf⟩, hB'⟩ := hB
    cases ho : ops[i]? with
    | none =>
      have hm : i ∈ Region.ready md ops listed := by simpa using hr
      obtain ⟨_, oj, hoj, _⟩ := mem_ready.1 hm
      rw [ho] at hoj
      cases hoj
    | some o =>
      simp only [pick, ho] at h
      rw [List.length_cons, ← Nat.add_assoc]
      have go : ∀ v, YieldsIf P ops S o v a → Reads P ops S (fun a' => wpAnyH P md ops Q S fuel (listedBy (i :: rest) listed) a' w) (pick ops rest) (a.put o.dst v) → wpAnyH P md ops Q S (fuel + rest.length + 1) listed a w := fun v hy hk =>
        wpAnyH_take (v := v) ho hs hf hr (fun c a w => hQ c o.dst v a w) hy hS (reads_any hs hS hQ fuel rest _ _ hB' hk)
      rcases h with ⟨hw, v, hv, hk⟩ | ⟨hw, hk⟩
      · exact go v (.inl ⟨hw, hv⟩) hk
      · exact go undef (.inr ⟨hw, rfl⟩) hk

/-- An operation that must come up now, and may do as it likes along R. -/
theorem acts_any {R : World → World → Prop} (hR : ∀ {x y z}, R x y → R y z → R x z) {w : World} {fuel i : Nat} {listed : Array Bool} {a : Act} {o : Oper} (hi : ops[i]? = some o) (hr : Region.ready md ops listed = [i])
    (hw : Region.wanted o (yielded ops a.tmps) = true) (h : o.wp P a w (fun a' x => R w x ∧ wpAnyH P md ops Q (R x) fuel (listed.setIfInBounds i true) a' x) Q) :
    wpAnyH P md ops Q (R w) (fuel + 1) listed a w := by
  refine wpAnyH_all hr (by simp) fun j hj => ?_
  rw [List.mem_singleton] at hj
  subst hj
  unfold wpOp
  simp only [hi, hw, if_true]
  exact .inl (Oper.wp_mono (fun a' x hx => ⟨hx.1, any_mono (fun y hy => hR hx.1 hy) _ _ _ _ hx.2⟩) h)
/-- The beginning: a region that doesn't panic. -/
theorem region_begin {id : Nat} {S : World → Prop} {a : Act} {w : World} (hm : P.follows .mixedOrders = true) (h : wpAnyH P .any ops (NoPanic Q) S ops.size (Array.replicate ops.size false) a w.drew) : (Code.region id ops true).wp P Q a w :=
  wp_region_noPanic (wp_region_held hm h)
theorem noPanic_put {c : List PanicEntry} {d : Option Tmp} {v : Value} {a : Act} {w : World} (h : NoPanic Q (.panic c) (Act.put a d v) w) : NoPanic Q (.panic c) a w := h
end
/-- New memory alone is made. -/
def Fresh (w x : World) : Prop := Below w.heap.size w x
theorem Fresh.refl (w : World) : Fresh w w := Below.refl _ _
theorem Fresh.trans {x y z : World} (h : Fresh x y) (k : Fresh y z) : Fresh x z := Below.trans h (Below.mono k (Below.size h))
end Order
end Go.Proofs.Ytkfmmdiflbnhgaa

namespace Go.Proofs.Ytkfmmdiflbnhgaa
set_option maxRecDepth 100000
open Go.RowKit
namespace Order
section
variable {P : Program} {ops : Array Oper} {Q : Exit → Act → World → Prop} {md : Region.Mode} {S : World → Prop} {L : List Nat}

/-- Whatever order is picked from here on, and S holds behind each operation that is not of L. -/
def wpAnyE (P : Program) (md : Region.Mode) (ops : Array Oper) (Q : Exit → Act → World → Prop) (S : World → Prop) (L : List Nat) : Nat → Array Bool → Act → World → Prop
  | 0, listed, a, w => Region.ready md ops listed = [] ∧ Q .normal a w
  | fuel + 1, listed, a, w =>
    (Region.ready md ops listed = [] → Q .normal a w) ∧
    ∀ i ∈ Region.ready md ops listed, wpOp P ops Q i (fun a' w' => (i ∉ L → S w') ∧ wpAnyE P md ops Q S L fuel (listed.setIfInBounds i true) a' w') a w
theorem anyE_any : ∀ (fuel : Nat) (listed : Array Bool) (a : Act) (w : World), wpAnyE P md ops Q S L fuel listed a w → wpAny P md ops Q fuel listed a w
  | 0, _, _, _, h => h
  | fuel + 1, _, _, _, h => ⟨h.1, fun i hi => wpOp_mono (fun a' w' h' => anyE_any fuel _ a' w' h'.2) (h.2 i hi)⟩
/-- Each of L that hasn't come up waits for i. -/
def waitsB (md : Region.Mode) (ops : Array Oper) (L : List Nat) (listed : Array Bool) (i : Nat) : Bool :=
  L.all fun j => (j != i) && (listed.getD j true || match ops[j]? with
    | some o => o.after.any fun e => Region.binds md e && e.on == i
    | none => true)

theorem anyE_first {i : Nat} {oi : Oper} {v : Value} (hi : ops[i]? = some oi) (hsel : ∀ (j : Nat) (o : Oper) cs b, ops[j]? = some o → o.op ≠ .select cs b)
    (hQ : ∀ c a w, Q (.panic c) (a.put oi.dst v) w → Q (.panic c) a w) :
    ∀ (fuel : Nat) (listed : Array Bool) (a : Act) (w : World),
      (∀ j oj, ops[j]? = some oj → j ≠ i → listed.getD j true = false → (∀ e ∈ oj.after, Region.binds md e = true → e.on ≠ i) → oi.apart ops oj = true) →
      (∀ j ∈ L, j ≠ i ∧ (listed.getD j true = false → ∀ oj, ops[j]? = some oj → ∃ e ∈ oj.after, Region.binds md e = true ∧ e.on = i)) →
      i ∈ Region.ready md ops listed → YieldsIf P ops S oi v a → S w →
      wpAnyE P md ops Q S L fuel (listed.setIfInBounds i true) (a.put oi.dst v) w → wpAnyE P md ops Q S L (fuel + 1) listed a w := by
  intro fuel
  induction fuel with
  | zero =>
    intro listed a w _ _ hr hy hS H
    refine ⟨fun h => (by rw [h] at hr; cases hr), fun j hj => ?_⟩
    by_cases hji : j = i
    · subst hji; exact hy.wpOp hi hS ⟨fun _ => hS, H⟩
    · have := ready_mono hj hji
      rw [H.1] at this
      cases this
  | succ fuel ih =>
    intro listed a w hfree hL hr hy hS H
    refine ⟨fun h => (by rw [h] at hr; cases hr), fun j hj => ?_⟩
    by_cases hji : j = i
    · subst hji; exact hy.wpOp hi hS ⟨fun _ => hS, H⟩
    · have h1 := H.2 j (ready_mono hj hji)
      obtain ⟨hjun, oj, hoj, hall⟩ := mem_ready.1 hj
      have hnot : ∀ e ∈ oj.after, Region.binds md e = true → e.on ≠ i := fun e he hb heq => by
        have h1 := hall e he hb
        have h0 := (mem_ready.1 hr).1
        rw [heq] at h1
        rcases Nat.lt_or_ge i listed.size with h' | h'
        · simp [h'] at h0 h1; rw [h0] at h1; cases h1
        · simp [Array.getElem?_eq_none h'] at h1
      have hjL : j ∉ L := fun hm => by
        obtain ⟨e, he, hb, heq⟩ := (hL j hm).2 hjun oj hoj
        exact hnot e he hb heq
      have h2 := wpOp_putIf hoj (hfree j oj hoj hji hjun hnot) (fun cs b => hsel i oi cs b hi) (fun cs b => hsel j oj cs b hoj) hQ hy h1
      have hfree' : ∀ k ok, ops[k]? = some ok → k ≠ i → (listed.setIfInBounds j true).getD k true = false →
          (∀ e ∈ ok.after, Region.binds md e = true → e.on ≠ i) → oi.apart ops ok = true := fun k ok hk hki hun hno => by
        refine hfree k ok hk hki ?_ hno
        by_cases hjk : j = k
        · subst hjk; exact hjun
        · rw [getD_set_ne true hjk] at hun; exact hun
      have hL' : ∀ k ∈ L, k ≠ i ∧ ((listed.setIfInBounds j true).getD k true = false → ∀ ok, ops[k]? = some ok → ∃ e ∈ ok.after, Region.binds md e = true ∧ e.on = i) := fun k hk => by
        refine ⟨(hL k hk).1, fun hun => (hL k hk).2 ?_⟩
        by_cases hjk : j = k
        · subst hjk; exact hjun
        · rw [getD_set_ne true hjk] at hun; exact hun
      refine wpOp_mono (fun a' w' h3 => ⟨h3.2.1, ih (listed.setIfInBounds j true) a' w' hfree' hL' (ready_mono hr (Ne.symm hji)) h3.1 (h3.2.1 hjL) ?_⟩) h2
      rw [Array.setIfInBounds_comm _ _ hji]
      exact h3.2.2
theorem anyE_take {i : Nat} {oi : Oper} {v : Value} {fuel : Nat} {listed : Array Bool} {a : Act} {w : World} (hi : ops[i]? = some oi)
    (hs : Region.noSelect ops = true) (hf : Region.free md ops listed i = true) (hl : waitsB md ops L listed i = true) (hr : (Region.ready md ops listed).contains i = true)
    (hQ : ∀ c a w, Q (.panic c) (a.put oi.dst v) w → Q (.panic c) a w) (hy : YieldsIf P ops S oi v a) (hS : S w)
    (h : wpAnyE P md ops Q S L fuel (listed.setIfInBounds i true) (a.put oi.dst v) w) : wpAnyE P md ops Q S L (fuel + 1) listed a w :=
  anyE_first hi (Region.noSelect_spec hs) hQ fuel listed a w (Region.free_spec hi hf) (fun j hj => by
    have := List.all_eq_true.1 hl j hj
    simp only [Bool.and_eq_true, Bool.or_eq_true, bne_iff_ne, ne_eq] at this
    refine ⟨this.1, fun hun oj hoj => ?_⟩
    rcases this.2 with h2 | h2
    · rw [hun] at h2; cases h2
    · rw [hoj] at h2
      obtain ⟨e, he, h3⟩ := Array.any_eq_true'.1 h2
      simp only [Bool.and_eq_true, beq_iff_eq] at h3
      exact ⟨e, he, h3⟩) (by simpa using hr) hy hS h

def readsE (md : Region.Mode) (ops : Array Oper) (L : List Nat) : List Nat → Array Bool → Bool
  | [], _ => true
  | i :: rest, listed => (Region.ready md ops listed).contains i && Region.free md ops listed i && waitsB md ops L listed i && readsE md ops L rest (listed.setIfInBounds i true)
theorem readsE_any {w : World} (hs : Region.noSelect ops = true) (hS : S w) (hQ : ∀ c d v a w, Q (.panic c) (Act.put a d v) w → Q (.panic c) a w) (fuel : Nat) : ∀ (idx : List Nat) (listed : Array Bool) (a : Act),
    readsE md ops L idx listed = true → Reads P ops S (fun a' => wpAnyE P md ops Q S L fuel (listedBy idx listed) a' w) (pick ops idx) a → wpAnyE P md ops Q S L (fuel + idx.length) listed a w
  | [], _, _, _, h => h
  | i :: rest, listed, a, hB, h => by
    simp only [readsE, Bool.and_eq_true] at hB
    obtain ⟨⟨⟨hr, hf⟩, hl⟩, hB'⟩ := hB
    cases ho : ops[i]? with
    | none =>
      have hm : i ∈ Region.ready md ops listed := by simpa using hr
      obtain ⟨_, oj, hoj, _⟩ := mem_ready.1 hm
      rw [ho] at hoj
      cases hoj
    | some o =>
      simp only [pick, ho] at h
      rw [List.length_cons, ← Nat.add_assoc]
      have go : ∀ v, YieldsIf P ops S o v a → Reads P ops S (fun a' => wpAnyE P md ops Q S L fuel (listedBy (i :: rest) listed) a' w) (pick ops rest) (a.put o.dst v) → wpAnyE P md ops Q S L (fuel + rest.length + 1) listed a w := fun v hy hk =>
        anyE_take (v := v) ho hs hf hl hr (fun c a w => hQ c o.dst v a w) hy hS (readsE_any hs hS hQ fuel rest _ _ hB' hk)
      rcases h with ⟨hw, v, hv, hk⟩ | ⟨hw, hk⟩
      · exact go v (.inl ⟨hw, hv⟩) hk
      · exact go undef (.inr ⟨hw, rfl⟩) hk
/-- A load whose value is known (a whole array, a whole struct). -/
theorem load_at {a : Act} {o : Oper} {w : World} {ty : TypeId} {q : Operand} {ad v : Value} (ho : o.op = .load ty q) (hq : a.eval q = ad) (h : (Instr.loadAt ty ad).run P w = .ok v w) : (execOp a.eval o).run P w = .ok (.value v) w := by
  unfold execOp
  simp only [ho, hq, Sem.run_bind, h, Result.andThen_ok, Sem.run_pure]
/-- A slice literal whose value is known. -/
theorem wp_lit {a : Act} {o : Oper} {w w' : World} {K : Act → World → Prop} {t : TypeId} {len : Nat} {parts : Array (Nat × Operand)} {vs : Array (Nat × Value)} {v : Value} (ho : o.op = .buildSlice t len parts) (hp : (parts.map fun x => (x.1, a.eval x.2)) = vs)
    (h : (Instr.buildSlice t len vs).run P w = .ok v w') (hK : K (a.put o.dst v) w') : o.wp P a w K Q := by
  subst hp
  unfold Oper.wp execOp
  simp only [ho, Sem.run_bind, h, Result.andThen_ok, Sem.run_pure]
  exact hK
theorem wp_lit0 {a : Act} {o : Oper} {w w' : World} {K : Act → World → Prop} {t : TypeId} {len : Nat} {v : Value} (ho : o.op = .buildSlice t len #[])
    (h : (Instr.buildSlice t len #[]).run P w = .ok v w') (hK : K (a.put o.dst v) w') : o.wp P a w K Q := wp_lit ho (by simp) h hK
theorem wp_lit1 {a : Act} {o : Oper} {w w' : World} {K : Act → World → Prop} {t : TypeId} {len i : Nat} {q : Operand} {u v : Value} (ho : o.op = .buildSlice t len #[(i, q)]) (hq : a.eval q = u)
    (h : (Instr.buildSlice t len #[(i, u)]).run P w = .ok v w') (hK : K (a.put o.dst v) w') : o.wp P a w K Q := wp_lit ho (by simp [hq]) h hK
/-- An operation that must come up now, not of L: S is shown behind it. -/
theorem actE {w : World} {fuel i : Nat} {listed : Array Bool} {a : Act} {o : Oper} (hi : ops[i]? = some o) (hr : Region.ready md ops listed = [i])
    (hw : Region.wanted o (yielded ops a.tmps) = true) (h : o.wp P a w (fun a' x => S x ∧ wpAnyE P md ops Q S L fuel (listed.setIfInBounds i true) a' x) Q) :
    wpAnyE P md ops Q S L (fuel + 1) listed a w := by
  refine ⟨fun h0 => by rw [hr] at h0; simp at h0, fun j hj => ?_⟩
  rw [hr, List.mem_singleton] at hj
  subst hj
  unfold wpOp
  simp only [hi, hw, if_true]
  exact .inl (Oper.wp_mono (fun a' x hx => ⟨fun _ => hx.1, hx.2⟩) h)
/-- Two that may come up now. -/
theorem actE2 {w : World} {fuel i j : Nat} {listed : Array Bool} {a : Act} {o p : Oper} (hi : ops[i]? = some o) (hj : ops[j]? = some p) (hr : Region.ready md ops listed = [i, j])
    (hw : Region.wanted o (yielded ops a.tmps) = true) (hv : Region.wanted p (yielded ops a.tmps) = true) (h : o.wp P a w (fun a' x => S x ∧ wpAnyE P md ops Q S L fuel (listed.setIfInBounds i true) a' x) Q)
    (k : p.wp P a w (fun a' x => S x ∧ wpAnyE P md ops Q S L fuel (listed.setIfInBounds j true) a' x) Q) :
    wpAnyE P md ops Q S L (fuel + 1) listed a w := by
  refine ⟨fun h0 => by rw [hr] at h0; simp at h0, fun n hn => ?_⟩
  rw [hr] at hn
  rcases List.mem_cons.1 hn with rfl | hn
  · unfold wpOp
    simp only [hi, hw, if_true]
    exact .inl (Oper.wp_mono (fun a' x hx => ⟨fun _ => hx.1, hx.2⟩) h)
  · rw [List.mem_singleton] at hn
    subst hn
    unfold wpOp
    simp only [hj, hv, if_true]
    exact .inl (Oper.wp_mono (fun a' x hx => ⟨fun _ => hx.1, hx.2⟩) k)
/-- One of L, that must come up now. -/
theorem lastE {w : World} {fuel i : Nat} {listed : Array Bool} {a : Act} {o : Oper} (hi : ops[i]? = some o) (hr : Region.ready md ops listed = [i]) (hL : i ∈ L)
    (hw : Region.wanted o (yielded ops a.tmps) = true) (h : o.wp P a w (fun a' x => wpAnyE P md ops Q S L fuel (listed.setIfInBounds i true) a' x) Q) :
    wpAnyE P md ops Q S L (fuel + 1) listed a w := by
  refine ⟨fun h0 => by rw [hr] at h0; simp at h0, fun j hj => ?_⟩
  rw [hr, List.mem_singleton] at hj
  subst hj
  unfold wpOp
  simp only [hi, hw, if_true]
  exact .inl (Oper.wp_mono (fun a' x hx => ⟨fun hn => absurd hL hn, hx⟩) h)
theorem doneE {listed : Array Bool} {a : Act} {w : World} (hr : Region.ready md ops listed = []) (h : Q .normal a w) : ∀ fuel, wpAnyE P md ops Q S L fuel listed a w
  | 0 => ⟨hr, h⟩
  | _ + 1 => ⟨fun _ => h, by rw [hr]; simp⟩
theorem beginE {id : Nat} (S : World → Prop) (L : List Nat) {a : Act} {w : World} (hm : P.follows .mixedOrders = true) (h : wpAnyE P .any ops (NoPanic Q) S L ops.size (Array.replicate ops.size false) a w.drew) : (Code.region id ops true).wp P Q a w :=
  wp_region_noPanic (wp_region_any hm (anyE_any _ _ _ _ h))
end
end Order
end Go.Proofs.Ytkfmmdiflbnhgaa

namespace Go.Proofs.Ytkfmmdiflbnhgaa
set_option maxRecDepth 100000
open Go.RowKit
namespace Order
section
variable {P : Program} {ops : Array Oper} {Q : Exit → Act → World → Prop} {md : Region.Mode} {S : World → Prop} {L : List Nat}
/-- From j a chain of operations that haven't come up leads to i, each waiting for the next one. -/
inductive Chain (md : Region.Mode) (ops : Array Oper) (listed : Array Bool) (i : Nat) : Nat → Prop
  | here : listed.getD i true = false → Chain md ops listed i i
  | step {j k : Nat} {o : Oper} : ops[j]? = some o → (∃ e ∈ o.after, Region.binds md e = true ∧ e.on = k) → listed.getD j true = false → Chain md ops listed i k → Chain md ops listed i j
theorem Chain.un {listed : Array Bool} {i j : Nat} (h : Chain md ops listed i j) : listed.getD j true = false := by
  cases h with
  | here h => exact h
  | step _ _ h _ => exact h
theorem un_not {listed : Array Bool} {k : Nat} (h : listed.getD k true = false) (h1 : listed.getD k false = true) : False := by
  rcases Nat.lt_or_ge k listed.size with h' | h'
  · simp [h'] at h h1; rw [h] at h1; cases h1
  · simp [Array.getElem?_eq_none h'] at h1
theorem Chain.unready {listed : Array Bool} {i j : Nat} (h : Chain md ops listed i j) (hj : j ≠ i) : j ∉ Region.ready md ops listed := fun hr => by
  cases h with
  | here h => exact hj rfl
  | step ho he _ hk =>
    obtain ⟨_, oj, hoj, hall⟩ := mem_ready.1 hr
    rw [ho] at hoj
    cases hoj
    obtain ⟨e, he1, he2, rfl⟩ := he
    exact un_not hk.un (hall e he1 he2)
theorem Chain.goes {listed : Array Bool} {i j x : Nat} (h : Chain md ops listed i j) (hx : x ≠ i) (hr : x ∈ Region.ready md ops listed) : Chain md ops (listed.setIfInBounds x true) i j := by
  induction h with
  | here h => exact .here (by rw [getD_set_ne true hx]; exact h)
  | step ho he hu hk ih =>
    rename_i j k o
    have hjx : x ≠ j := fun e => by
      subst e
      exact (Chain.step ho he hu hk).unready hx hr
    exact .step ho he (by rw [getD_set_ne true hjx]; exact hu) ih
def chainB (md : Region.Mode) (ops : Array Oper) (listed : Array Bool) (i : Nat) : Nat → Nat → Bool
  | 0, j => (j == i) && !listed.getD i true
  | f + 1, j => ((j == i) && !listed.getD i true) || (!listed.getD j true && match ops[j]? with
    | some o => o.after.any fun e => Region.binds md e && chainB md ops listed i f e.on
    | none => false)
theorem chain_of {listed : Array Bool} {i : Nat} : ∀ (f j : Nat), chainB md ops listed i f j = true → Chain md ops listed i j
  | 0, j, h => by
    simp only [chainB, Bool.and_eq_true, beq_iff_eq, Bool.not_eq_true'] at h
    rw [h.1]
    exact .here h.2
  | f + 1, j, h => by
    simp only [chainB, Bool.or_eq_true, Bool.and_eq_true, beq_iff_eq, Bool.not_eq_true'] at h
    rcases h with h | ⟨hu, h⟩
    · rw [h.1]
      exact .here h.2
    · cases ho : ops[j]? with
      | none => rw [ho] at h; cases h
      | some o =>
        rw [ho] at h
        obtain ⟨e, he, h3⟩ := Array.any_eq_true'.1 h
        simp only [Bool.and_eq_true] at h3
        exact .step ho ⟨e, he, h3.1, rfl⟩ hu (chain_of f _ h3.2)
def waitsC (md : Region.Mode) (ops : Array Oper) (L : List Nat) (listed : Array Bool) (i : Nat) : Bool :=
  L.all fun j => (j != i) && (listed.getD j true || chainB md ops listed i 12 j)
theorem anyC_first {i : Nat} {oi : Oper} {v : Value} (hi : ops[i]? = some oi) (hsel : ∀ (j : Nat) (o : Oper) cs b, ops[j]? = some o → o.op ≠ .select cs b)
    (hQ : ∀ c a w, Q (.panic c) (a.put oi.dst v) w → Q (.panic c) a w) :
    ∀ (fuel : Nat) (listed : Array Bool) (a : Act) (w : World),
      (∀ j oj, ops[j]? = some oj → j ≠ i → listed.getD j true = false → (∀ e ∈ oj.after, Region.binds md e = true → e.on ≠ i) → oi.apart ops oj = true) →
      (∀ j ∈ L, j ≠ i ∧ (listed.getD j true = false → Chain md ops listed i j)) →
      i ∈ Region.ready md ops listed → YieldsIf P ops S oi v a → S w →
      wpAnyE P md ops Q S L fuel (listed.setIfInBounds i true) (a.put oi.dst v) w → wpAnyE P md ops Q S L (fuel + 1) listed a w := by
  intro fuel
  induction fuel with
  | zero =>
    intro listed a w _ _ hr hy hS H
    refine ⟨fun h => (by rw [h] at hr; cases hr), fun j hj => ?_⟩
    by_cases hji : j = i
    · subst hji; exact hy.wpOp hi hS ⟨fun _ => hS, H⟩
    · have := ready_mono hj hji
      rw [H.1] at this
      cases this
  | succ fuel ih =>
    intro listed a w hfree hL hr hy hS H
    refine ⟨fun h => (by rw [h] at hr; cases hr), fun j hj => ?_⟩
    by_cases hji : j = i
    · subst hji; exact hy.wpOp hi hS ⟨fun _ => hS, H⟩
    · have h1 := H.2 j (ready_mono hj hji)
      obtain ⟨hjun, oj, hoj, hall⟩ := mem_ready.1 hj
      have hjun' : listed.getD j true = false := hjun
      have hnot : ∀ e ∈ oj.after, Region.binds md e = true → e.on ≠ i := fun e he hb heq => by
        have h1 := hall e he hb
        have h0 := (mem_ready.1 hr).1
        rw [heq] at h1
        exact un_not h0 h1
      have hjL : j ∉ L := fun hm => ((hL j hm).2 hjun').unready (hL j hm).1 hj
      have h2 := wpOp_putIf hoj (hfree j oj hoj hji hjun hnot) (fun cs b => hsel i oi cs b hi) (fun cs b => hsel j oj cs b hoj) hQ hy h1
      have hfree' : ∀ k ok, ops[k]? = some ok → k ≠ i → (listed.setIfInBounds j true).getD k true = false →
          (∀ e ∈ ok.after, Region.binds md e = true → e.on ≠ i) → oi.apart ops ok = true := fun k ok hk hki hun hno => by
        refine hfree k ok hk hki ?_ hno
        by_cases hjk : j = k
        · subst hjk; exact hjun
        · rw [getD_set_ne true hjk] at hun; exact hun
      have hL' : ∀ k ∈ L, k ≠ i ∧ ((listed.setIfInBounds j true).getD k true = false → Chain md ops (listed.setIfInBounds j true) i k) := fun k hk => by
        refine ⟨(hL k hk).1, fun hun => ((hL k hk).2 ?_).goes hji hj⟩
        by_cases hjk : j = k
        · subst hjk; exact hjun
        · rw [getD_set_ne true hjk] at hun; exact hun
      refine wpOp_mono (fun a' w' h3 => ⟨h3.2.1, ih (listed.setIfInBounds j true) a' w' hfree' hL' (ready_mono hr (Ne.symm hji)) h3.1 (h3.2.1 hjL) ?_⟩) h2
      rw [Array.setIfInBounds_comm _ _ hji]
      exact h3.2.2
/-- An operation of L that asks nothing of the memory. -/
theorem anyF_first {i : Nat} {oi : Oper} {v : Value} (hi : ops[i]? = some oi) (hsel : ∀ (j : Nat) (o : Oper) cs b, ops[j]? = some o → o.op ≠ .select cs b)
    (hQ : ∀ c a w, Q (.panic c) (a.put oi.dst v) w → Q (.panic c) a w) (hiL : i ∈ L) :
    ∀ (fuel : Nat) (listed : Array Bool) (a : Act) (w : World),
      (∀ j oj, ops[j]? = some oj → j ≠ i → listed.getD j true = false → (∀ e ∈ oj.after, Region.binds md e = true → e.on ≠ i) → oi.apart ops oj = true) →
      i ∈ Region.ready md ops listed → YieldsIf P ops (fun _ => True) oi v a →
      wpAnyE P md ops Q S L fuel (listed.setIfInBounds i true) (a.put oi.dst v) w → wpAnyE P md ops Q S L (fuel + 1) listed a w := by
  intro fuel
  induction fuel with
  | zero =>
    intro listed a w _ hr hy H
    refine ⟨fun h => (by rw [h] at hr; cases hr), fun j hj => ?_⟩
    by_cases hji : j = i
    · subst hji; exact hy.wpOp hi trivial ⟨fun h => absurd hiL h, H⟩
    · have := ready_mono hj hji
      rw [H.1] at this
      cases this
  | succ fuel ih =>
    intro listed a w hfree hr hy H
    refine ⟨fun h => (by rw [h] at hr; cases hr), fun j hj => ?_⟩
    by_cases hji : j = i
    · subst hji; exact hy.wpOp hi trivial ⟨fun h => absurd hiL h, H⟩
    · have h1 := H.2 j (ready_mono hj hji)
      obtain ⟨hjun, oj, hoj, hall⟩ := mem_ready.1 hj
      have hnot : ∀ e ∈ oj.after, Region.binds md e = true → e.on ≠ i := fun e he hb heq => by
        have h1 := hall e he hb
        have h0 := (mem_ready.1 hr).1
        rw [heq] at h1
        exact un_not h0 h1
      have h2 := wpOp_putIf hoj (hfree j oj hoj hji hjun hnot) (fun cs b => hsel i oi cs b hi) (fun cs b => hsel j oj cs b hoj) hQ hy h1
      have hfree' : ∀ k ok, ops[k]? = some ok → k ≠ i → (listed.setIfInBounds j true).getD k true = false →
          (∀ e ∈ ok.after, Region.binds md e = true → e.on ≠ i) → oi.apart ops ok = true := fun k ok hk hki hun hno => by
        refine hfree k ok hk hki ?_ hno
        by_cases hjk : j = k
        · subst hjk; exact hjun
        · rw [getD_set_ne true hjk] at hun; exact hun
      refine wpOp_mono (fun a' w' h3 => ⟨h3.2.1, ih (listed.setIfInBounds j true) a' w' hfree' (ready_mono hr (Ne.symm hji)) h3.1 ?_⟩) h2
      rw [Array.setIfInBounds_comm _ _ hji]
      exact h3.2.2
theorem anyC_take {i : Nat} {oi : Oper} {v : Value} {fuel : Nat} {listed : Array Bool} {a : Act} {w : World} (hi : ops[i]? = some oi)
    (hs : Region.noSelect ops = true) (hf : Region.free md ops listed i = true) (hl : waitsC md ops L listed i = true) (hr : (Region.ready md ops listed).contains i = true)
    (hQ : ∀ c a w, Q (.panic c) (a.put oi.dst v) w → Q (.panic c) a w) (hy : YieldsIf P ops S oi v a) (hS : S w)
    (h : wpAnyE P md ops Q S L fuel (listed.setIfInBounds i true) (a.put oi.dst v) w) : wpAnyE P md ops Q S L (fuel + 1) listed a w :=
  anyC_first hi (Region.noSelect_spec hs) hQ fuel listed a w (Region.free_spec hi hf) (fun j hj => by
    have := List.all_eq_true.1 hl j hj
    simp only [Bool.and_eq_true, Bool.or_eq_true, bne_iff_ne, ne_eq] at this
    refine ⟨this.1, fun hun => ?_⟩
    rcases this.2 with h2 | h2
    · rw [hun] at h2; cases h2
    · exact chain_of _ _ h2) (by simpa using hr) hy hS h
def readsC (md : Region.Mode) (ops : Array Oper) (L : List Nat) : List Nat → Array Bool → Bool
  | [], _ => true
  | i :: rest, listed => (Region.ready md ops listed).contains i && Region.free md ops listed i && waitsC md ops L listed i && readsC md ops L rest (listed.setIfInBounds i true)
theorem readsC_any {w : World} (hs : Region.noSelect ops = true) (hS : S w) (hQ : ∀ c d v a w, Q (.panic c) (Act.put a d v) w → Q (.panic c) a w) (fuel : Nat) : ∀ (idx : List Nat) (listed : Array Bool) (a : Act),
    readsC md ops L idx listed = true → Reads P ops S (fun a' => wpAnyE P md ops Q S L fuel (listedBy idx listed) a' w) (pick ops idx) a → wpAnyE P md ops Q S L (fuel + idx.length) listed a w
  | [], _, _, _, h => h
  | i :: rest, listed, a, hB, h => by
    simp only [readsC, Bool.and_eq_true] at hB
    obtain ⟨⟨⟨hr, hf⟩, hl⟩, hB'⟩ := hB
    cases ho : ops[i]? with
    | none =>
      have hm : i ∈ Region.ready md ops listed := by simpa using hr
      obtain ⟨_, oj, hoj, _⟩ := mem_ready.1 hm
      rw [ho] at hoj
      cases hoj
    | some o =>
      simp only [pick, ho] at h
      rw [List.length_cons, ← Nat.add_assoc]
      have go : ∀ v, YieldsIf P ops S o v a → Reads P ops S (fun a' => wpAnyE P md ops Q S L fuel (listedBy (i :: rest) listed) a' w) (pick ops rest) (a.put o.dst v) → wpAnyE P md ops Q S L (fuel + rest.length + 1) listed a w := fun v hy hk =>
        anyC_take (v := v) ho hs hf hl hr (fun c a w => hQ c o.dst v a w) hy hS (readsC_any hs hS hQ fuel rest _ _ hB' hk)
      rcases h with ⟨hw, v, hv, hk⟩ | ⟨hw, hk⟩
      · exact go v (.inl ⟨hw, hv⟩) hk
      · exact go undef (.inr ⟨hw, rfl⟩) hk
/-- An operation of L that asks nothing of the memory, taken now. -/
theorem freeC {i : Nat} {oi : Oper} {v : Value} {fuel : Nat} {listed : Array Bool} {a : Act} {w : World} (hi : ops[i]? = some oi)
    (hs : Region.noSelect ops = true) (hiL : i ∈ L) (hf : Region.free md ops listed i = true) (hr : (Region.ready md ops listed).contains i = true)
    (hQ : ∀ c d v a w, Q (.panic c) (Act.put a d v) w → Q (.panic c) a w) (hw : Region.wanted oi (yielded ops a.tmps) = true) (hv : ∀ w, (execOp a.eval oi).run P w = .ok (.value v) w)
    (h : wpAnyE P md ops Q S L fuel (listed.setIfInBounds i true) (a.put oi.dst v) w) : wpAnyE P md ops Q S L (fuel + 1) listed a w :=
  anyF_first hi (Region.noSelect_spec hs) (fun c a w => hQ c oi.dst v a w) hiL fuel listed a w (Region.free_spec hi hf) (by simpa using hr) (.inl ⟨hw, fun w _ => hv w⟩) h
end
end Order
end Go.Proofs.Ytkfmmdiflbnhgaa
