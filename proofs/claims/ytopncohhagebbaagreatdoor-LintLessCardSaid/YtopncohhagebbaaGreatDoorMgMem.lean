/-
  Helpers of the walks over texts: what is left of a text behind a place; bytes; the widths of runes.
  Cells of new blocks, with what they hold, while nothing that was there turns.
  What of memory a call may turn; and an append to bytes that the call owns: the row that comes back is the old one or a new one.
  Rows of elements of whatever size that a call owns: an append to them; a row cut short; one that stays while other blocks turn.
  Layer 5 (tract): nodes that lie in memory.
  Layer 7 (grammar): things that lie in memory, the lists that they hold in blocks of a kind; rows of such things.
  strings.Clone: the same text.
  Package glyph in this program: what stray answers.
  Package glyph in this program: Count.
  A region that draws its order, with calls that do as they like within a relation R (what R keeps, the reading operations need): the calls wait for one another; what reads is taken as soon as it may come up, for whatever world is reached along R.
  A region that draws its order, whose operations read and whose callees make new memory alone: one walk, in the order of the text, over every world in which the cells that are read hold what they held.
-/
import Derived.Test.YtopncohhagebbaaGreatDoorMgPure
import Derived.Test.YtopncohhagebbaaGreatDoorShelf
import Derived.WalkKit
import Derived.WalkSmall
import Derived.BigCall
import Derived.BigQuiet
import Derived.Deep.QuietTactic
import Derived.Lib.Hide
import Derived.IntWalk
import Derived.Lib.AppendStr
import Derived.Lib.UnsafeStr
import Derived.OwnWalk
import Derived.OrdersHeld
import Derived.Deep.RegionHeld3
import Derived.Deep.Quiet
namespace Go.Proofs.YtopncohhagebbaaGreatDoor
open Go.RowKit
namespace Gl
theorem drop_ne {s : ByteArray} {p : Nat} (h : p < s.size) : s.data.toList.drop p ≠ [] := by
  intro e
  have := congrArg List.length e
  rw [List.length_drop, ← Lib.size_eq] at this
  simp at this; omega

theorem flip {P : Program} {f : FuncId} {a : Array Value} {w : World} {x : Ending} (h : Calls P f a w fun e w' => e = x ∧ w' = w) : Calls P f a w fun e w' => e = x ∧ w = w' :=
  h.mono fun _ _ ⟨a, b⟩ => ⟨a, b.symm⟩

theorem extract_list (s : ByteArray) (p : Nat) : (s.extract p s.size).data.toList = s.data.toList.drop p := by
  rw [Lib.extract_data]
  exact List.take_of_length_le (by rw [List.length_drop, Lib.size_eq]; exact Nat.le_refl _)

end Gl
namespace Ref

theorem byte_at {s : ByteArray} {p k : Nat} (h : p + k < s.size) : Gly.byte (s.data.toList.drop p) k = (s[p + k]).toNat := by
  unfold Gly.byte
  rw [Gly.getD_drop]
  have h' : p + k < s.data.toList.length := by rw [← Lib.size_eq]; exact h
  rw [List.getD, List.getElem?_eq_getElem h']
  simp
  rfl
theorem byte_at0 {s : ByteArray} {p : Nat} (h : p < s.size) : Gly.byte (s.data.toList.drop p) 0 = (s[p]).toNat := byte_at (k := 0) h
end Ref
namespace Gl
theorem width (s : ByteArray) (p : Nat) (h : p < s.size) : 1 ≤ (Utf8.decode s p).2 ∧ p + (Utf8.decode s p).2 ≤ s.size := by
  have := Gly.dec_width _ (drop_ne h)
  rw [Gly.dec_at]
  rw [List.length_drop, ← Lib.size_eq] at this
  omega

theorem drop_next (s : ByteArray) (p : Nat) : (s.data.toList.drop p).drop (Gly.dec (s.data.toList.drop p)).2 = s.data.toList.drop (p + (Utf8.decode s p).2) := by
  rw [List.drop_drop, Gly.dec_at]

theorem drop_end {s : ByteArray} {p : Nat} (h : ¬ p < s.size) : s.data.toList.drop p = [] := List.drop_eq_nil_of_le (by rw [← Lib.size_eq]; omega)

end Gl
end Go.Proofs.YtopncohhagebbaaGreatDoor

namespace Go.Proofs.YtopncohhagebbaaGreatDoor
open Go.RowKit
namespace Who
def Held (w : World) (L : List (Addr × Value)) (x : World) : Prop :=
  Below w.heap.size w x ∧ ∀ p ∈ L, p.1.block < x.heap.size ∧ x.cell? p.1 = some p.2 ∧ x.frozen? p.1 = false
theorem Held.below {w x : World} {L : List (Addr × Value)} (h : Held w L x) : Below w.heap.size w x := h.1
theorem Held.all {w x : World} {L : List (Addr × Value)} (h : Held w L x) : ∀ p ∈ L, p.1.block < x.heap.size ∧ x.cell? p.1 = some p.2 ∧ x.frozen? p.1 = false := h.2
theorem Held.step {w x y : World} {L : List (Addr × Value)} (hb : Below x.heap.size x y) (h : Held w L x) : Held w L y :=
  ⟨h.1.trans (hb.mono h.1.size), fun p hp => by
    obtain ⟨h1, h2, h3⟩ := h.2 p hp
    exact ⟨Nat.lt_of_lt_of_le h1 hb.size, (hb.cell h1).trans h2, (hb.frozen h1).trans h3⟩⟩
theorem Held.drew {w x : World} {L : List (Addr × Value)} (h : Held w L x) : Held w L x.drew := ⟨⟨h.1.os, h.1.tape, h.1.output, h.1.size, h.1.block⟩, h.2⟩

end Who
end Go.Proofs.YtopncohhagebbaaGreatDoor

namespace Go.Proofs.YtopncohhagebbaaGreatDoor
open Go.RowKit
namespace Knot

structure Turns (F : Nat → Prop) (w x : World) : Prop where
  os : x.os = w.os
  tape : x.tape = w.tape
  output : x.output = w.output
  size : w.heap.size ≤ x.heap.size
  block : ∀ k, k < w.heap.size → ¬ F k → x.heap[k]? = w.heap[k]?

theorem Turns.refl (F : Nat → Prop) (w : World) : Turns F w w := ⟨rfl, rfl, rfl, Nat.le_refl _, fun _ _ _ => rfl⟩
theorem Turns.mono {F G : Nat → Prop} {w x : World} (h : Turns F w x) (hF : ∀ k, k < w.heap.size → F k → G k) : Turns G w x :=
  ⟨h.os, h.tape, h.output, h.size, fun k hk hn => h.block k hk fun hf => hn (hF k hk hf)⟩
theorem Turns.trans {F G : Nat → Prop} {w x y : World} (h : Turns F w x) (h2 : Turns G x y) (hG : ∀ k, k < w.heap.size → G k → F k) : Turns F w y :=
  ⟨h2.os.trans h.os, h2.tape.trans h.tape, h2.output.trans h.output, Nat.le_trans h.size h2.size,
    fun k hk hn => (h2.block k (Nat.lt_of_lt_of_le hk h.size) fun hg => hn (hG k hk hg)).trans (h.block k hk hn)⟩
theorem Turns.of_below {F : Nat → Prop} {w x : World} (h : Below w.heap.size w x) : Turns F w x :=
  ⟨h.os, h.tape, h.output, h.size, fun k hk _ => h.block k hk⟩
theorem Turns.then_below {F : Nat → Prop} {w x y : World} (h : Turns F w x) (h2 : Below x.heap.size x y) : Turns F w y := h.trans (Turns.of_below (F := F) h2) fun _ _ h => h
theorem Turns.after_below {F : Nat → Prop} {w x y : World} (h : Below w.heap.size w x) (h2 : Turns F x y) : Turns F w y := (Turns.of_below (F := F) h).trans h2 fun _ _ h => h
theorem Turns.below {F : Nat → Prop} {B : Nat} {w x : World} (h : Turns F w x) (hB : B ≤ w.heap.size) (hF : ∀ k, F k → B ≤ k) : Below B w x :=
  ⟨h.os, h.tape, h.output, h.size, fun k hk => h.block k (by omega) fun hf => by have := hF k hf; omega⟩
theorem Turns.of_grown {F : Nat → Prop} {w x : World} {row : Option Nat} (h : w.grownBy x row) (hF : ∀ k, row = some k → F k) : Turns F w x :=
  ⟨h.os, h.tape, h.output, h.size, fun k hk hn => h.block k hk fun e => hn (hF k e.symm)⟩
theorem Turns.setCell {F : Nat → Prop} {w x : World} (h : Turns F w x) {p : Addr} (hp : F p.block) (v : Value) : Turns F w (x.setCell p v) :=
  h.trans (G := fun k => k = p.block) ⟨rfl, rfl, rfl, by simp [World.setCell], fun k _ hn => Below.heap_setCell _ _ _ _ hn⟩ fun k _ e => by rw [e]; exact hp
theorem Turns.setNew {F : Nat → Prop} {w x : World} (h : Turns F w x) {p : Addr} (hp : w.heap.size ≤ p.block) (v : Value) : Turns F w (x.setCell p v) :=
  ⟨h.os, h.tape, h.output, by have := h.size; simpa [World.setCell] using this, fun k hk hn => (Below.heap_setCell _ _ _ _ (by omega)).trans (h.block k hk hn)⟩
theorem Turns.heap {F : Nat → Prop} {w x : World} (h : Turns F w x) {k : Nat} {o : Obj} (hk : w.heap[k]? = some o) (hn : ¬ F k) : x.heap[k]? = some o := (h.block k (Array.getElem?_eq_some_iff.1 hk).1 hn).trans hk
theorem Turns.alloc {F : Nat → Prop} {w x : World} (h : Turns F w x) (o : Obj) : Turns F w (x.alloc o) := h.then_below ((Below.refl _ _).alloc (Nat.le_refl _) o)
theorem Turns.cell {F : Nat → Prop} {w x : World} (h : Turns F w x) {p : Addr} (hp : p.block < w.heap.size) (hn : ¬ F p.block) : x.cell? p = w.cell? p := World.cell?_of_block (w := w) (h.block p.block hp hn)
theorem Turns.frozen {F : Nat → Prop} {w x : World} (h : Turns F w x) {p : Addr} (hp : p.block < w.heap.size) (hn : ¬ F p.block) : x.frozen? p = w.frozen? p := World.frozen?_of_block (w := w) (h.block p.block hp hn)

structure IsBytes (P : Program) (t e : TypeId) (i : TypeInfo) : Prop where
  under : P.underlying t = some (.slice e)
  info : P.info? e = some i
  zero : i.zero = some (.int .u8 0)
  size : i.size = 1
  bytes : i.bytes = 1
def NewRow (w : World) (v v' : Value) : Prop := ∀ k, v'.ownBlock = some k → v.ownBlock = some k ∨ w.heap.size ≤ k
theorem NewRow.refl (w : World) (v : Value) : NewRow w v v := fun _ h => .inl h

section
variable {P : Program} {w : World} {t e : TypeId} {i : TypeInfo}
section
variable {ops : Array Oper} {rest : List Oper} {o : Oper} {a : Act} {Q : Exit → Act → World → Prop}
end
end
end Knot
end Go.Proofs.YtopncohhagebbaaGreatDoor

namespace Go.Proofs.YtopncohhagebbaaGreatDoor
open Go.RowKit
namespace Tr
open Knot (Turns NewRow)

structure IsElem (P : Program) (t e : TypeId) (i : TypeInfo) (z : Value) (c b : Nat) : Prop where
  under : P.underlying t = some (.slice e)
  info : P.info? e = some i
  zero : i.zero = some z
  size : i.size = c
  bytes : i.bytes = b
  cells : z.cells.size = c
  pos : 0 < c
section
variable {P : Program} {w : World} {t e : TypeId} {i : TypeInfo} {z : Value} {sz by' : Nat}
theorem append_rows (T : IsElem P t e i z sz by') (ty : TypeId) {B n m c : Nat} {v : Value} {xs news : List Value} {ad : Addr} (hown : w.ownsRow B e sz v n xs) (hB : B ≤ w.heap.size)
    (hl : news.length = m * sz) (hn : ∀ j u, news[j]? = some u → w.cell? (ad.add j) = some u) (h1 : ∀ u ∈ news, u.oneCell' = true) (hs : n + m ≤ 100000000) (hb : (n + m) * by' ≤ 140737488355328) :
    ∃ v' x, (Builtin.append_ #[t, t] ty #[v, .slice (some ad) m c]).run P w = .ok v' x ∧ x.ownsRow B e sz v' (n + m) (xs ++ news) ∧ w.grownBy x v.ownBlock ∧ NewRow w v v' := by
  have key := fun b hb' ho => run_append_own (P := P) w b t ty e i z sz by' T.under T.info T.zero T.size T.bytes T.cells T.pos v n xs ho ad m c news hl hn h1 (by unfold maxLen; omega) hb hb'
  obtain ⟨v', x, hr, h2, h3, -⟩ := key B hB hown
  refine ⟨v', x, hr, h2, h3, ?_⟩
  have hrow := hown.2
  rcases hrow with ⟨rfl, rfl⟩ | ⟨g, cap, cur, rfl, hbg, hg, hnc, hcm, hcs, htake⟩
  · have hx : xs = [] := List.eq_nil_of_length_eq_zero (by simpa using hown.1)
    subst hx
    obtain ⟨v2, x2, hr2, h22, -, -⟩ := key w.heap.size (Nat.le_refl _) (World.ownsRow_nil _ _ _ _)
    obtain ⟨rfl, rfl⟩ := Result.ok.inj (hr.symm.trans hr2)
    exact fun k hk => .inr (h22.lt k hk).1
  · by_cases hroom : n + m ≤ cap
    · have hfit : n * i.size + news.length ≤ cur.size := by rw [T.size, hl, hcs, ← Nat.add_mul]; exact Nat.mul_le_mul_right _ hroom
      have hr2 := run_append_room (P := P) w t ty e i T.under T.info g n cap cur hg ad m c news (by rw [T.size]; exact hl) hn h1 hroom hfit
      obtain ⟨rfl, rfl⟩ := Result.ok.inj (hr.symm.trans hr2)
      exact fun k hk => .inl hk
    · have holds : ∀ j u, xs[j]? = some u → w.cell? ((⟨g, 0, none⟩ : Addr).add j) = some u := hown.cells (g := g) rfl
      have hr2 := run_append_grow (P := P) w t ty e i z T.under T.info T.zero ⟨g, 0, none⟩ n cap xs (by rw [T.size]; exact hown.1) holds ad m c news (by rw [T.size]; exact hl) hn (by omega) (by omega) (growslice_fits (by omega) (by rw [T.bytes]; exact hb))
      obtain ⟨rfl, rfl⟩ := Result.ok.inj (hr.symm.trans hr2)
      intro k hk
      have e1 : w.heap.size = k := Option.some.inj hk
      exact .inr (by omega)
section
variable {ops : Array Oper} {rest : List Oper} {o : Oper} {a : Act} {Q : Exit → Act → World → Prop}
theorem append_none (T : IsElem P t e i z sz by') (ty : TypeId) {B n : Nat} {v : Value} {xs : List Value} (hown : w.ownsRow B e sz v n xs) (hs : n ≤ 100000000) :
    (Builtin.append_ #[t, t] ty #[v, .slice none 0 0]).run P w = .ok v w := by
  rcases hown.2 with ⟨rfl, rfl⟩ | ⟨g, cap, cur, rfl, hbg, hg, hnc, hcm, hcs, htake⟩
  · simp [Builtin.append_, run_underlying T.under, sizeOf, typeInfo, T.info, Builtin.lenOf, Builtin.firstCells]
  · have h1 : ¬ (9223372036854775807 < (n : Int)) := by omega
    simp [Builtin.append_, run_underlying T.under, sizeOf, typeInfo, T.info, Builtin.lenOf, Builtin.firstCells, loadCells, hnc, storeCells]
theorem wp_none {K : Act → World → Prop} (T : IsElem P t e i z sz by') (s x : Operand) (ho : o.op = .call { callee := .builtin .append, args := #[s, x], argTypes := #[t, t] })
    {B n : Nat} {v : Value} {xs : List Value} (hs : a.eval s = v) (hx : a.eval x = .slice none 0 0) (hown : w.ownsRow B e sz v n xs) (hz : n ≤ 100000000) (h : K (a.put o.dst v) w) : o.wp P a w K Q := by
  have hr := append_none T o.type hown hz
  unfold Oper.wp execOp
  simp only [ho, resolve, invoke, builtin, Sem.run_bind, Sem.run_pure, Result.andThen_ok, List.map_toArray, List.map_cons, List.map_nil, hs, hx, hr]
  exact h
theorem wp_rows {K : Act → World → Prop} (T : IsElem P t e i z sz by') (s x : Operand) (ho : o.op = .call { callee := .builtin .append, args := #[s, x], argTypes := #[t, t] })
    {B n m c : Nat} {v : Value} {xs news : List Value} {ad : Addr} (hs : a.eval s = v) (hx : a.eval x = .slice (some ad) m c) (hown : w.ownsRow B e sz v n xs) (hB : B ≤ w.heap.size)
    (hl : news.length = m * sz) (hn : ∀ j u, news[j]? = some u → w.cell? (ad.add j) = some u) (h1 : ∀ u ∈ news, u.oneCell' = true) (hz : n + m ≤ 100000000) (hb : (n + m) * by' ≤ 140737488355328)
    (h : ∀ v' y, y.ownsRow B e sz v' (n + m) (xs ++ news) → w.grownBy y v.ownBlock → NewRow w v v' → K (a.put o.dst v') y) : o.wp P a w K Q := by
  obtain ⟨v', y, hr, h2, h3, h4⟩ := append_rows T o.type hown hB hl hn h1 hz hb (c := c)
  unfold Oper.wp execOp
  simp only [ho, resolve, invoke, builtin, Sem.run_bind, Sem.run_pure, Result.andThen_ok, List.map_toArray, List.map_cons, List.map_nil, hs, hx, hr]
  exact h v' y h2 h3 h4
theorem walk_rows (T : IsElem P t e i z sz by') (hgd : o.guard = none) (s x : Operand) (ho : o.op = .call { callee := .builtin .append, args := #[s, x], argTypes := #[t, t] })
    {B n m c : Nat} {v : Value} {xs news : List Value} {ad : Addr} (hs : a.eval s = v) (hx : a.eval x = .slice (some ad) m c) (hown : w.ownsRow B e sz v n xs) (hB : B ≤ w.heap.size)
    (hl : news.length = m * sz) (hn : ∀ j u, news[j]? = some u → w.cell? (ad.add j) = some u) (h1 : ∀ u ∈ news, u.oneCell' = true) (hz : n + m ≤ 100000000) (hb : (n + m) * by' ≤ 140737488355328)
    (h : ∀ v' y, y.ownsRow B e sz v' (n + m) (xs ++ news) → w.grownBy y v.ownBlock → NewRow w v v' → wpList P ops Q rest (a.put o.dst v') y) : wpList P ops Q (o :: rest) a w := by
  refine wpList_plain hgd fun K hK => ?_
  obtain ⟨v', y, hr, h2, h3, h4⟩ := append_rows T o.type hown hB hl hn h1 hz hb (c := c)
  unfold Oper.wp execOp
  simp only [ho, resolve, invoke, builtin, Sem.run_bind, Sem.run_pure, Result.andThen_ok, List.map_toArray, List.map_cons, List.map_nil, hs, hx, hr]
  exact hK _ _ (h v' y h2 h3 h4)
end
end
theorem addp (b o i : Nat) : (⟨b, o, none⟩ : Addr).add i = ⟨b, o + i, none⟩ := by unfold Addr.add; split <;> simp_all
section
variable {w x : World} {B n c : Nat} {e : TypeId} {v : Value} {xs : List Value}
theorem own_turn {F : Nat → Prop} (h : w.ownsRow B e c v n xs) (ht : Turns F w x) (hF : ∀ k, v.ownBlock = some k → ¬ F k) : x.ownsRow B e c v n xs := by
  refine ⟨h.1, ?_⟩
  rcases h.2 with hn | ⟨g, cap, cur, rfl, hb, hg, r⟩
  · exact .inl hn
  · exact .inr ⟨g, cap, cur, rfl, hb, (ht.block g (Array.getElem?_eq_some_iff.1 hg).1 (hF g rfl)).trans hg, r⟩
theorem own_below (h : w.ownsRow B e c v n xs) (hb : Below w.heap.size w x) : x.ownsRow B e c v n xs := own_turn (F := fun _ => False) h (Turns.of_below hb) fun _ _ h => h
theorem own_slice (h : w.ownsRow B e c v n xs) : ∃ ao cap, v = .slice ao n cap := by
  rcases h.2 with ⟨rfl, rfl⟩ | ⟨g, cap, cur, rfl, _⟩
  · exact ⟨_, _, rfl⟩
  · exact ⟨_, _, rfl⟩
theorem own_open (h : w.ownsRow B e c v (n + 1) xs) : ∃ g cap, v = .slice (some ⟨g, 0, none⟩) (n + 1) cap ∧ B ≤ g ∧ g < w.heap.size ∧ n + 1 ≤ cap ∧ ∀ j u, xs[j]? = some u → w.cell? ⟨g, j, none⟩ = some u := by
  rcases h.2 with ⟨-, h0⟩ | ⟨g, cap, cur, rfl, hb, hg, hn, -⟩
  · omega
  · refine ⟨g, cap, rfl, hb, (Array.getElem?_eq_some_iff.1 hg).1, hn, fun j u hu => ?_⟩
    have := h.cells (g := g) rfl j u hu
    rwa [addp, Nat.zero_add] at this
theorem own_cut {g cap m : Nat} (h : w.ownsRow B e c (.slice (some ⟨g, 0, none⟩) n cap) n xs) (hm : m ≤ n) : w.ownsRow B e c (.slice (some ⟨g, 0, none⟩) m cap) m (xs.take (m * c)) := by
  have hle : m * c ≤ n * c := Nat.mul_le_mul_right _ hm
  refine ⟨by rw [List.length_take, h.1]; omega, ?_⟩
  rcases h.2 with ⟨h0, -⟩ | ⟨g', cap', cur, hv, hb, hg, hn, hcm, hcs, htk⟩
  · cases h0
  · obtain ⟨hg1, -, rfl⟩ : some (⟨g, 0, none⟩ : Addr) = some ⟨g', 0, none⟩ ∧ n = n ∧ cap = cap' := by simpa using hv
    obtain rfl : g = g' := by simpa using hg1
    exact .inr ⟨g, cap, cur, rfl, hb, hg, by omega, hcm, hcs, by rw [← htk, List.take_take, Nat.min_eq_left hle]⟩
end
end Tr
end Go.Proofs.YtopncohhagebbaaGreatDoor

namespace Go.Proofs.YtopncohhagebbaaGreatDoor
open Go.RowKit
namespace Tr
theorem fresh_one (w : World) (o : Obj) : Below w.heap.size w (w.alloc o) := (Below.refl _ _).alloc (Nat.le_refl _) o
open Knot (Turns)

def RowAt (w : World) (c : Nat) (g o : Nat) (vs : List Value) : Prop :=
  ∀ i v, vs[i]? = some v → v.cells.size = c ∧ ∀ j u, v.cells[j]? = some u → w.cell? ⟨g, o + i * c + j, none⟩ = some u
abbrev node4 (k : Int) (a b : ByteArray) (s : Value) : Value := .agg #[.int .i64 k, .string a, .string b, s]
mutual
def IsNode (w : World) : Nd → Value → Prop
  | .mk k a b l, v => ∃ ao cap vs, v = node4 k a b (.slice ao l.length cap) ∧ (a.size ≤ maxLen ∧ b.size ≤ maxLen) ∧ (l ≠ [] → ∃ g o, ao = some ⟨g, o, none⟩ ∧ RowAt w 4 g o vs) ∧ IsNodes w l vs
def IsNodes (w : World) : List Nd → List Value → Prop
  | [], vs => vs = []
  | n :: r, vs => ∃ v vr, vs = v :: vr ∧ IsNode w n v ∧ IsNodes w r vr
end
theorem IsNodes.len {w : World} : ∀ {l : List Nd} {vs : List Value}, IsNodes w l vs → vs.length = l.length
  | [], vs, h => by rw [IsNodes] at h; rw [h]; rfl
  | n :: r, vs, h => by
    rw [IsNodes] at h
    obtain ⟨v, vr, rfl, -, hr⟩ := h
    rw [List.length_cons, List.length_cons, IsNodes.len hr]
theorem IsNodes.at {w : World} : ∀ {l : List Nd} {vs : List Value}, IsNodes w l vs → ∀ {i : Nat} (h : i < l.length), ∃ v, vs[i]? = some v ∧ IsNode w l[i] v
  | n :: r, vs, h, i, hi => by
    rw [IsNodes] at h
    obtain ⟨v, vr, rfl, hn, hr⟩ := h
    match i, hi with
    | 0, _ => exact ⟨v, rfl, hn⟩
    | i + 1, hi =>
      obtain ⟨u, hu, hn'⟩ := IsNodes.at hr (i := i) (by simpa using hi)
      exact ⟨u, by simpa using hu, by simpa using hn'⟩
theorem IsNodes.of {w : World} : ∀ {l : List Nd} {vs : List Value}, vs.length = l.length → (∀ (i : Nat) (h : i < l.length) (v : Value), vs[i]? = some v → IsNode w l[i] v) → IsNodes w l vs
  | [], vs, hl, _ => by rw [IsNodes]; exact List.eq_nil_of_length_eq_zero hl
  | n :: r, [], hl, _ => by simp at hl
  | n :: r, v :: vr, hl, h => by
    rw [IsNodes]
    refine ⟨v, vr, rfl, h 0 (by simp) v rfl, IsNodes.of (by simpa using hl) fun i hi u hu => ?_⟩
    have := h (i + 1) (by simpa using hi) u (by simpa using hu)
    simpa using this
theorem RowAt.turn {w x : World} {F : Nat → Prop} {c g o : Nat} {vs : List Value} (h : RowAt w c g o vs) (ht : Turns F w x) (hF : ¬ F g) : RowAt x c g o vs := fun i v hv => by
  obtain ⟨h1, h2⟩ := h i v hv
  refine ⟨h1, fun j u hu => ?_⟩
  have h3 := h2 j u hu
  exact (ht.cell (p := ⟨g, o + i * c + j, none⟩) (World.block_lt_of_cell? w _ h3) hF).trans h3
theorem RowAt.below {w x : World} {c g o : Nat} {vs : List Value} (h : RowAt w c g o vs) (hb : Below w.heap.size w x) : RowAt x c g o vs := h.turn (F := fun _ => False) (Turns.of_below hb) id
theorem IsNode.on {w x : World} (hr : ∀ c g o vs, RowAt w c g o vs → RowAt x c g o vs) : ∀ (k : Nat) (n : Nd) (v : Value), size n ≤ k → IsNode w n v → IsNode x n v
  | 0, n, _, h, _ => by have := size_pos n; omega
  | k + 1, .mk q a b l, v, h, hn => by
    rw [IsNode] at hn ⊢
    obtain ⟨ao, cap, vs, rfl, hs, hrow, hk⟩ := hn
    refine ⟨ao, cap, vs, rfl, hs, fun hl => ?_, ?_⟩
    · obtain ⟨g, o, e, h1⟩ := hrow hl
      exact ⟨g, o, e, hr _ _ _ _ h1⟩
    · refine IsNodes.of hk.len fun i hi u hu => ?_
      obtain ⟨u', hu', hn'⟩ := hk.at hi
      rw [hu] at hu'
      cases hu'
      refine IsNode.on hr k _ _ ?_ hn'
      have := sizes_mem (List.getElem_mem hi)
      rw [size] at h
      omega
theorem IsNode.below {w x : World} {n : Nd} {v : Value} (h : IsNode w n v) (hb : Below w.heap.size w x) : IsNode x n v := IsNode.on (fun _ _ _ _ h => h.below hb) (size n) n v (Nat.le_refl _) h
theorem IsNodes.below {w x : World} {l : List Nd} {vs : List Value} (h : IsNodes w l vs) (hb : Below w.heap.size w x) : IsNodes x l vs :=
  IsNodes.of h.len fun i hi u hu => by
    obtain ⟨u', hu', hn'⟩ := h.at hi
    rw [hu] at hu'
    cases hu'
    exact hn'.below hb
theorem IsNode.open {w : World} {n : Nd} {v : Value} (h : IsNode w n v) : ∃ ao cap vs, v = node4 n.kind n.ta n.tb (.slice ao n.kids.length cap) ∧ (n.ta.size ≤ maxLen ∧ n.tb.size ≤ maxLen) ∧ (n.kids ≠ [] → ∃ g o, ao = some ⟨g, o, none⟩ ∧ RowAt w 4 g o vs) ∧ IsNodes w n.kids vs := by
  cases n
  rw [IsNode] at h
  exact h
theorem elemN : Tryz.prog.underlying 45 = some (.slice (Tryz.prog.elem 45)) := by kernel_rfl
theorem sizeN : ∀ w, (sizeOf (Tryz.prog.elem 45)).run Tryz.prog w = .ok 4 w := fun w => by kernel_rfl
theorem kid_at {w : World} {l : List Nd} {ao : Option Addr} {cap : Nat} {vs : List Value} (hr : l ≠ [] → ∃ g o, ao = some ⟨g, o, none⟩ ∧ RowAt w 4 g o vs) (hk : IsNodes w l vs) {i : Nat} (hi : i < l.length) :
    ∃ g q sa sc, (∀ W, (Instr.indexAt 45 (.slice ao l.length cap) (.int .i64 (i : Int))).run Tryz.prog W = .ok (.pointer (some ⟨g, q, none⟩)) W) ∧ g < w.heap.size ∧
      w.cell? ⟨g, q, none⟩ = some (.int .i64 l[i].kind) ∧ w.cell? ⟨g, q + 1, none⟩ = some (.string l[i].ta) ∧ w.cell? ⟨g, q + 2, none⟩ = some (.string l[i].tb) ∧ w.cell? ⟨g, q + 3, none⟩ = some (.slice sa l[i].kids.length sc) ∧
      IsNode w l[i] (node4 l[i].kind l[i].ta l[i].tb (.slice sa l[i].kids.length sc)) := by
  obtain ⟨g, o, rfl, hrow⟩ := hr (fun e => by rw [e] at hi; simp at hi)
  obtain ⟨v, hv, hn⟩ := hk.at hi
  obtain ⟨-, hc⟩ := hrow i v hv
  obtain ⟨ao', cap', vs', hv', -⟩ := hn.open
  subst hv'
  have c0 := hc 0 _ rfl
  refine ⟨g, o + i * 4, _, _, fun W => ?_, World.block_lt_of_cell? w _ c0, c0, hc 1 _ rfl, hc 2 _ rfl, hc 3 _ rfl, hn⟩
  rw [run_indexAt_slice W _ _ _ _ _ _ elemN, if_pos ⟨by omega, by omega⟩, sizeN]
  have e : ((i : Int)).toNat = i := by omega
  simp only [Result.andThen_ok, e, Addr.add_lit]

def Kids (w : World) (l : List Nd) (ao : Option Addr) (vs : List Value) : Prop := (l ≠ [] → ∃ g o, ao = some ⟨g, o, none⟩ ∧ RowAt w 4 g o vs) ∧ IsNodes w l vs
theorem Kids.below {w x : World} {l : List Nd} {ao : Option Addr} {vs : List Value} (h : Kids w l ao vs) (hb : Below w.heap.size w x) : Kids x l ao vs :=
  ⟨fun hl => by
    obtain ⟨g, o, e, h1⟩ := h.1 hl
    exact ⟨g, o, e, h1.below hb⟩, h.2.below hb⟩
theorem Kids.at {w : World} {l : List Nd} {ao : Option Addr} {vs : List Value} (h : Kids w l ao vs) (cap : Nat) {i : Nat} (hi : i < l.length) :
    ∃ g q sa sc, (∀ W, (Instr.indexAt 45 (.slice ao l.length cap) (.int .i64 (i : Int))).run Tryz.prog W = .ok (.pointer (some ⟨g, q, none⟩)) W) ∧ g < w.heap.size ∧
      w.cell? ⟨g, q, none⟩ = some (.int .i64 l[i].kind) ∧ w.cell? ⟨g, q + 1, none⟩ = some (.string l[i].ta) ∧ w.cell? ⟨g, q + 2, none⟩ = some (.string l[i].tb) ∧ w.cell? ⟨g, q + 3, none⟩ = some (.slice sa l[i].kids.length sc) ∧
      IsNode w l[i] (node4 l[i].kind l[i].ta l[i].tb (.slice sa l[i].kids.length sc)) := kid_at h.1 h.2 hi
theorem Kids.at' {w : World} {l : List Nd} {ao : Option Addr} {vs : List Value} (h : Kids w l ao vs) (cap : Nat) {i : Nat} (hi : i < l.length) :
    ∃ g q sa sc, (∀ W, (Instr.indexAt 45 (.slice ao l.length cap) (.int .i64 (i : Int))).run Tryz.prog W = .ok (.pointer (some ⟨g, q, none⟩)) W) ∧ g < w.heap.size ∧
      w.cell? ⟨g, q, none⟩ = some (.int .i64 l[i].kind) ∧ w.cell? ⟨g, q + 1, none⟩ = some (.string l[i].ta) ∧ w.cell? ⟨g, q + 2, none⟩ = some (.string l[i].tb) ∧ w.cell? ⟨g, q + 3, none⟩ = some (.slice sa l[i].kids.length sc) ∧
      vs[i]? = some (node4 l[i].kind l[i].ta l[i].tb (.slice sa l[i].kids.length sc)) := by
  obtain ⟨g, o, rfl, hrow⟩ := h.1 (fun e => by rw [e] at hi; simp at hi)
  obtain ⟨v, hv, hn⟩ := h.2.at hi
  obtain ⟨-, hc⟩ := hrow i v hv
  obtain ⟨ao', cap', vs', hv', -⟩ := hn.open
  subst hv'
  have c0 := hc 0 _ rfl
  refine ⟨g, o + i * 4, _, _, fun W => ?_, World.block_lt_of_cell? w _ c0, c0, hc 1 _ rfl, hc 2 _ rfl, hc 3 _ rfl, hv⟩
  rw [run_indexAt_slice W _ _ _ _ _ _ elemN, if_pos ⟨by omega, by omega⟩, sizeN]
  have e : ((i : Int)).toNat = i := by omega
  simp only [Result.andThen_ok, e, Addr.add_lit]
theorem IsNode.kids {w : World} {n : Nd} {v : Value} (h : IsNode w n v) : ∃ ao cap vs, v = node4 n.kind n.ta n.tb (.slice ao n.kids.length cap) ∧ (n.ta.size ≤ maxLen ∧ n.tb.size ≤ maxLen) ∧ Kids w n.kids ao vs := h.open

def Box4 (R : Nat) (k : Int) (a b : ByteArray) (s : Value) (x : World) : Prop := x.heap[R]? = some (.cells #[.int .i64 k, .string a, .string b, s] 47 (0, 0))
theorem Box4.new (w : World) (k : Int) (a b : ByteArray) (s : Value) : Box4 w.heap.size k a b s (w.alloc (.cells #[.int .i64 k, .string a, .string b, s] 47)) := heap_alloc_new w _
section
variable {R : Nat} {k : Int} {a b : ByteArray} {s : Value} {x y : World}
theorem Box4.lt (h : Box4 R k a b s x) : R < x.heap.size := (Array.getElem?_eq_some_iff.1 h).1
theorem Box4.cells (h : Box4 R k a b s x) : x.cell? ⟨R, 0, none⟩ = some (.int .i64 k) ∧ x.cell? ⟨R, 1, none⟩ = some (.string a) ∧ x.cell? ⟨R, 2, none⟩ = some (.string b) ∧ x.cell? ⟨R, 3, none⟩ = some s :=
  ⟨by rw [Lib.cell_of_heap h]; rfl, by rw [Lib.cell_of_heap h]; rfl, by rw [Lib.cell_of_heap h]; rfl, by rw [Lib.cell_of_heap h]; rfl⟩
theorem Box4.on (h : Box4 R k a b s x) (hb : Below x.heap.size x y) : Box4 R k a b s y := (hb.block R h.lt).trans h
end

end Tr
end Go.Proofs.YtopncohhagebbaaGreatDoor

namespace Go.Proofs.YtopncohhagebbaaGreatDoor
open Go.RowKit
namespace Gr
open Knot (Turns NewRow)
open Tr (Nd none0 RowAt node4 IsNode IsNodes size sizes size_pos sizes_mem own_turn own_slice)

mutual
def NodeS (S : Nat → Prop) (w : World) : Nd → Value → Prop
  | .mk k a b l, v => ∃ ao cap vs, v = node4 k a b (.slice ao l.length cap) ∧ (a.size ≤ maxLen ∧ b.size ≤ maxLen) ∧ (l ≠ [] → ∃ g o, ao = some ⟨g, o, none⟩ ∧ S g ∧ RowAt w 4 g o vs) ∧ NodesS S w l vs
def NodesS (S : Nat → Prop) (w : World) : List Nd → List Value → Prop
  | [], vs => vs = []
  | n :: r, vs => ∃ v vr, vs = v :: vr ∧ NodeS S w n v ∧ NodesS S w r vr
end
theorem NodesS.len {S : Nat → Prop} {w : World} : ∀ {l : List Nd} {vs : List Value}, NodesS S w l vs → vs.length = l.length
  | [], vs, h => by rw [NodesS] at h; rw [h]; rfl
  | n :: r, vs, h => by
    rw [NodesS] at h
    obtain ⟨v, vr, rfl, -, hr⟩ := h
    rw [List.length_cons, List.length_cons, NodesS.len hr]
theorem NodesS.at {S : Nat → Prop} {w : World} : ∀ {l : List Nd} {vs : List Value}, NodesS S w l vs → ∀ {i : Nat} (h : i < l.length), ∃ v, vs[i]? = some v ∧ NodeS S w l[i] v
  | n :: r, vs, h, i, hi => by
    rw [NodesS] at h
    obtain ⟨v, vr, rfl, hn, hr⟩ := h
    match i, hi with
    | 0, _ => exact ⟨v, rfl, hn⟩
    | i + 1, hi =>
      obtain ⟨u, hu, hn'⟩ := NodesS.at hr (i := i) (by simpa using hi)
      exact ⟨u, by simpa using hu, by simpa using hn'⟩
theorem NodesS.of {S : Nat → Prop} {w : World} : ∀ {l : List Nd} {vs : List Value}, vs.length = l.length → (∀ (i : Nat) (h : i < l.length) (v : Value), vs[i]? = some v → NodeS S w l[i] v) → NodesS S w l vs
  | [], vs, hl, _ => by rw [NodesS]; exact List.eq_nil_of_length_eq_zero hl
  | n :: r, [], hl, _ => by simp at hl
  | n :: r, v :: vr, hl, h => by
    rw [NodesS]
    refine ⟨v, vr, rfl, h 0 (by simp) v rfl, NodesS.of (by simpa using hl) fun i hi u hu => ?_⟩
    have := h (i + 1) (by simpa using hi) u (by simpa using hu)
    simpa using this
theorem row_lt {w : World} {g o : Nat} {vs : List Value} (h : RowAt w 4 g o vs) (hv : vs ≠ []) : g < w.heap.size := by
  match vs, hv with
  | v :: r, _ =>
    obtain ⟨h1, h2⟩ := h 0 v rfl
    have h0 : v.cells[0]? = some (v.cells[0]'(by omega)) := Array.getElem?_eq_getElem (by omega)
    exact World.block_lt_of_cell? w _ (h2 0 _ h0)
theorem NodeS.on {S S' : Nat → Prop} {w x : World} (hS : ∀ g, S g → g < w.heap.size → S' g) (hr : ∀ g o vs, S g → RowAt w 4 g o vs → RowAt x 4 g o vs) : ∀ (k : Nat) (n : Nd) (v : Value), size n ≤ k → NodeS S w n v → NodeS S' x n v
  | 0, n, _, h, _ => by have := size_pos n; omega
  | k + 1, .mk q a b l, v, h, hn => by
    rw [NodeS] at hn ⊢
    obtain ⟨ao, cap, vs, rfl, hs, hrow, hk⟩ := hn
    refine ⟨ao, cap, vs, rfl, hs, fun hl => ?_, ?_⟩
    · obtain ⟨g, o, e, hg, h1⟩ := hrow hl
      have hlt := row_lt h1 (fun e => hl (List.eq_nil_of_length_eq_zero (by have := hk.len; rw [e] at this; exact this.symm)))
      exact ⟨g, o, e, hS g hg hlt, hr _ _ _ hg h1⟩
    · refine NodesS.of hk.len fun i hi u hu => ?_
      obtain ⟨u', hu', hn'⟩ := hk.at hi
      rw [hu] at hu'
      cases hu'
      refine NodeS.on hS hr k _ _ ?_ hn'
      have := sizes_mem (List.getElem_mem hi)
      rw [size] at h
      omega
theorem NodeS.turn {S S' F : Nat → Prop} {w x : World} {n : Nd} {v : Value} (h : NodeS S w n v) (ht : Turns F w x) (hF : ∀ g, S g → g < w.heap.size → ¬ F g) (hS : ∀ g, S g → g < w.heap.size → S' g) : NodeS S' x n v := by
  have h2 : NodeS (fun g => S g ∧ g < w.heap.size) w n v := NodeS.on (fun g a b => ⟨a, b⟩) (fun _ _ _ _ h => h) (size n) n v (Nat.le_refl _) h
  exact NodeS.on (fun g a _ => hS g a.1 a.2) (fun g _ _ a h => h.turn ht (hF g a.1 a.2)) (size n) n v (Nat.le_refl _) h2
theorem NodeS.is {S : Nat → Prop} {w : World} : ∀ (k : Nat) {n : Nd} {v : Value}, size n ≤ k → NodeS S w n v → IsNode w n v
  | 0, n, _, h, _ => by have := size_pos n; omega
  | k + 1, .mk q a b l, v, h, hn => by
    rw [NodeS] at hn
    obtain ⟨ao, cap, vs, rfl, hs, hrow, hk⟩ := hn
    rw [IsNode]
    refine ⟨ao, cap, vs, rfl, hs, fun hl => ?_, ?_⟩
    · obtain ⟨g, o, e, -, h1⟩ := hrow hl
      exact ⟨g, o, e, h1⟩
    · refine IsNodes.of hk.len fun i hi u hu => ?_
      obtain ⟨u', hu', hn'⟩ := hk.at hi
      rw [hu] at hu'
      cases hu'
      refine NodeS.is k ?_ hn'
      have := sizes_mem (List.getElem_mem hi)
      rw [size] at h
      omega
theorem NodeS.open {S : Nat → Prop} {w : World} {n : Nd} {v : Value} (h : NodeS S w n v) : ∃ ao cap vs, v = node4 n.kind n.ta n.tb (.slice ao n.kids.length cap) ∧ (n.ta.size ≤ maxLen ∧ n.tb.size ≤ maxLen) ∧ (n.kids ≠ [] → ∃ g o, ao = some ⟨g, o, none⟩ ∧ S g ∧ RowAt w 4 g o vs) ∧ NodesS S w n.kids vs := by
  cases n
  rw [NodeS] at h
  exact h

structure Elt (α : Type) where
  c : Nat
  pos : 0 < c
  is : (Nat → Prop) → World → α → Value → Prop
  cells : ∀ {S w a v}, is S w a v → v.cells.size = c
  one : ∀ {S w a v}, is S w a v → ∀ u ∈ v.cells.toList, u.oneCell' = true
  turn : ∀ {S S' F w x a v}, is S w a v → Turns F w x → (∀ g, S g → g < w.heap.size → ¬ F g) → (∀ g, S g → g < w.heap.size → S' g) → is S' x a v
section
variable {α : Type} {E : Elt α}
theorem Elt.below {S : Nat → Prop} {w x : World} {a : α} {v : Value} (h : E.is S w a v) (hb : Below w.heap.size w x) : E.is S x a v := E.turn h (Turns.of_below (F := fun _ => False) hb) (fun _ _ _ h => h) fun _ h _ => h
theorem Elt.mono {S S' : Nat → Prop} {w : World} {a : α} {v : Value} (h : E.is S w a v) (hS : ∀ g, S g → g < w.heap.size → S' g) : E.is S' w a v := E.turn h (Turns.refl (fun _ => False) w) (fun _ _ _ h => h) hS
def cellsV (vs : List Value) : List Value := vs.flatMap fun v => v.cells.toList
theorem cellsV_append (a b : List Value) : cellsV (a ++ b) = cellsV a ++ cellsV b := List.flatMap_append
theorem cellsV_one (v : Value) : cellsV [v] = v.cells.toList := by simp [cellsV]
def RowS (E : Elt α) (w : World) (B : Nat) (T : TypeId) (v : Value) (l : List α) : Prop :=
  ∃ vs, w.ownsRow B T E.c v l.length (cellsV vs) ∧ vs.length = l.length ∧ ∀ (i : Nat) (a : α) (u : Value), l[i]? = some a → vs[i]? = some u → E.is (fun g => B ≤ g ∧ v.ownBlock ≠ some g) w a u
theorem RowS.nil (E : Elt α) (w : World) (B : Nat) (T : TypeId) : RowS E w B T (.slice none 0 0) ([] : List α) :=
  ⟨[], World.ownsRow_nil _ _ _ _, rfl, fun i a u h => by simp at h⟩
theorem RowS.own_lt {w : World} {B : Nat} {T : TypeId} {v : Value} {l : List α} (h : RowS E w B T v l) {k : Nat} (hk : v.ownBlock = some k) : B ≤ k ∧ k < w.heap.size := by
  obtain ⟨vs, h1, -, -⟩ := h
  exact h1.lt k hk
theorem RowS.turn {w x : World} {B : Nat} {T : TypeId} {v : Value} {l : List α} (h : RowS E w B T v l) {F : Nat → Prop} (ht : Turns F w x) (hF : ∀ g, B ≤ g → g < w.heap.size → ¬ F g) : RowS E x B T v l := by
  obtain ⟨vs, h1, h2, h3⟩ := h
  refine ⟨vs, own_turn h1 ht fun k hk => ?_, h2, fun i a u hi hu => E.turn (h3 i a u hi hu) ht (fun g hg hlt => hF g hg.1 hlt) fun _ h _ => h⟩
  have := h1.lt k hk
  exact hF k this.1 this.2
theorem RowS.below {w x : World} {B : Nat} {T : TypeId} {v : Value} {l : List α} (h : RowS E w B T v l) (hb : Below w.heap.size w x) : RowS E x B T v l := h.turn (Turns.of_below (F := fun _ => False) hb) fun _ _ _ h => h
theorem RowS.mono {w : World} {B C : Nat} {T : TypeId} {v : Value} {l : List α} (h : RowS E w B T v l) (hC : C ≤ B) : RowS E w C T v l := by
  obtain ⟨vs, h1, h2, h3⟩ := h
  refine ⟨vs, ⟨h1.1, ?_⟩, h2, fun i a u hi hu => Elt.mono (h3 i a u hi hu) fun g hg _ => ⟨Nat.le_trans hC hg.1, hg.2⟩⟩
  rcases h1.2 with h | ⟨g, cap, cur, hv, hb, r⟩
  · exact .inl h
  · exact .inr ⟨g, cap, cur, hv, Nat.le_trans hC hb, r⟩
theorem RowS.slice {w : World} {B : Nat} {T : TypeId} {v : Value} {l : List α} (h : RowS E w B T v l) : ∃ ao cap, v = .slice ao l.length cap := by
  obtain ⟨vs, h1, -, -⟩ := h
  exact own_slice h1
theorem cellsV_len {w : World} {vs : List Value} {l : List α} {f : Nat → Prop} (hl : vs.length = l.length) (h : ∀ (i : Nat) (a : α) (u : Value), l[i]? = some a → vs[i]? = some u → E.is f w a u) : ∀ u ∈ vs, u.cells.size = E.c := by
  intro u hu
  obtain ⟨i, hi, rfl⟩ := List.getElem_of_mem hu
  exact E.cells (h i (l[i]'(by omega)) _ (List.getElem?_eq_getElem _) (List.getElem?_eq_getElem _))
theorem RowS.grow {w x : World} {B C : Nat} {T : TypeId} {v v' : Value} {l m : List α} {vs us : List Value} (h2 : vs.length = l.length)
    (h3 : ∀ (i : Nat) (a : α) (u : Value), l[i]? = some a → vs[i]? = some u → E.is (fun g => B ≤ g ∧ v.ownBlock ≠ some g) w a u) (hlen : us.length = m.length)
    (hm : ∀ (i : Nat) (a : α) (u : Value), m[i]? = some a → us[i]? = some u → E.is (fun g => C ≤ g) w a u) (hC : ∀ g, C ≤ g → g < w.heap.size → B ≤ g ∧ v.ownBlock ≠ some g)
    (ho : x.ownsRow B T E.c v' (l.length + m.length) (cellsV vs ++ cellsV us)) (hg : w.grownBy x v.ownBlock) (hn : NewRow w v v') : RowS E x B T v' (l ++ m) := by
  have ht : Turns (fun k => v.ownBlock = some k) w x := Turns.of_grown hg fun k hk => hk
  have key : ∀ g, B ≤ g → v.ownBlock ≠ some g → g < w.heap.size → v'.ownBlock ≠ some g := fun g _ h4 h5 h6 => by
    rcases hn g h6 with h7 | h7
    · exact h4 h7
    · omega
  refine ⟨vs ++ us, ?_, by simp [h2, hlen], fun i a u hi hu => ?_⟩
  · rw [List.length_append, cellsV_append]
    exact ho
  · by_cases hlt : i < l.length
    · rw [List.getElem?_append_left hlt] at hi
      rw [List.getElem?_append_left (by omega)] at hu
      exact E.turn (h3 i a u hi hu) ht (fun g hg _ => hg.2) fun g hg hl => ⟨hg.1, key g hg.1 hg.2 hl⟩
    · rw [List.getElem?_append_right (by omega)] at hi
      rw [List.getElem?_append_right (by omega), h2] at hu
      exact E.turn (hm _ a u hi hu) ht (fun g hg hl => (hC g hg hl).2) fun g hg hl => ⟨(hC g hg hl).1, key g (hC g hg hl).1 (hC g hg hl).2 hl⟩
theorem RowS.single {w x : World} {B C g : Nat} {T : TypeId} {a : α} {u : Value} {cap : Nat} (hu : E.is (fun g => C ≤ g) w a u) (ho : x.ownsRow B T E.c (.slice (some ⟨g, 0, none⟩) 1 cap) 1 u.cells.toList)
    (hx : Below w.heap.size w x) (hg : w.heap.size ≤ g) (hB : B ≤ C) : RowS E x B T (.slice (some ⟨g, 0, none⟩) 1 cap) [a] := by
  refine ⟨[u], by rw [cellsV_one]; exact ho, rfl, fun i a' u' hi hu' => ?_⟩
  match i with
  | 0 =>
    obtain rfl : a = a' := by simpa using hi
    obtain rfl : u = u' := by simpa using hu'
    refine E.turn hu (Turns.of_below (F := fun _ => False) hx) (fun _ _ _ h => h) fun k hk hl => ⟨Nat.le_trans hB hk, fun e => ?_⟩
    have : g = k := Option.some.inj e
    omega
  | i + 1 => simp at hi
end

theorem node_cells {k : Int} {a b : ByteArray} {ao : Option Addr} {n cap : Nat} : (node4 k a b (.slice ao n cap)).cells = #[.int .i64 k, .string a, .string b, .slice ao n cap] := rfl
def nodeE : Elt Nd where
  c := 4
  pos := by decide
  is := NodeS
  cells := fun h => by obtain ⟨ao, cap, vs, rfl, -⟩ := h.open; rfl
  one := fun h u hu => by
    obtain ⟨ao, cap, vs, rfl, -⟩ := h.open
    rw [node_cells] at hu
    simp at hu
    rcases hu with rfl | rfl | rfl | rfl <;> rfl
  turn := fun h ht hF hS => h.turn ht hF hS
end Gr
end Go.Proofs.YtopncohhagebbaaGreatDoor

namespace Go.Proofs.YtopncohhagebbaaGreatDoor
open Go.RowKit
namespace Who

theorem clone_any (s : ByteArray) (w : World) (hs : s.size ≤ 4000000) :
    Calls Tryz.prog 64 #[.string s] w fun e w' => e = .returned (.string s) ∧ Below w.heap.size w w' := by
  go_enter Tryz.func64, Tryz.ntmps64
  go_wp2_with (go_at_call 106; refine (Tryz.stringslite_Clone s _ (by omega)).mono ?_; rintro e w1 ⟨rfl, b1⟩)
  go_ret
  exact ⟨rfl, b1⟩
end Who
end Go.Proofs.YtopncohhagebbaaGreatDoor

namespace Go.Proofs.YtopncohhagebbaaGreatDoor
open Go.RowKit
namespace Gl
set_option maxHeartbeats 1000000 in
set_option maxRecDepth 100000 in
theorem stray_any (s : ByteArray) (p : Nat) (r : Nat) (hp : p < s.size) (hr : r ≤ 1114111) (w : World) :
    Calls Tryz.prog 117 #[.string s, .int .i64 p, .int .i32 r] w fun e w' => e = .returned (.bool ((r : Int) == 65533 && !Lib.hasPrefix (s.data.toList.drop p) [239, 191, 189])) ∧ w = w' := by
  by_cases h : r = 65533
  · subst h
    have ht : (s.data.toList.drop p).take (s.size - p) = s.data.toList.drop p := List.take_of_length_le (by rw [List.length_drop, Lib.size_eq]; exact Nat.le_refl _)
    go_enter Tryz.func117, Tryz.ntmps117
    go_wp2_with (go_at_call 153; refine (flip (Tryz.strings_HasPrefix _ _ _)).mono ?_; rintro e w' ⟨rfl, rfl⟩)
    go_ret
    exact ⟨by simp, rfl⟩
  · have h1 : ((r : Int) == 65533) = false := by simp; omega
    go_enter Tryz.func117, Tryz.ntmps117
    go_wp2
    go_ret
    exact ⟨by simp [h1], rfl⟩
theorem stray_dec (s : ByteArray) (p : Nat) (hp : p < s.size) (w : World) :
    Calls Tryz.prog 117 #[.string s, .int .i64 p, .int .i32 ((Utf8.decode s p).1 : Int)] w fun e w' => e = .returned (.bool (Gly.bad (s.data.toList.drop p))) ∧ w = w' := by
  have hn := drop_ne hp
  have h := stray_any s p (Utf8.decode s p).1 hp (by rw [Gly.dec_at]; exact Gly.dec_max _ hn) w
  rw [show ((((Utf8.decode s p).1 : Nat) : Int) == 65533 && !Lib.hasPrefix (s.data.toList.drop p) [239, 191, 189]) = Gly.bad (s.data.toList.drop p) by rw [Gly.dec_at]; exact Gly.stray_eq _ hn] at h
  exact h

end Gl
end Go.Proofs.YtopncohhagebbaaGreatDoor

namespace Go.Proofs.YtopncohhagebbaaGreatDoor
open Go.RowKit
namespace Gl
def cntV : Option Nat → Value
  | some n => .tuple #[.int .i64 n, .int .i64 0]
  | none => .tuple #[.int .i64 0, .int .i64 4]

set_option maxHeartbeats 2000000 in
set_option maxRecDepth 100000 in
theorem count_any (s : ByteArray) (w : World) (hs : s.size ≤ 4000000) :
    Calls Tryz.prog 119 #[.string s] w fun e w' => e = .returned (cntV (Gly.cnt 0 s.data.toList)) ∧ Below w.heap.size w w' := by
  go_enter Tryz.func119, Tryz.ntmps119
  go_wp2
  go_loopw [4] (fun v wr => ∃ (pos n : Nat), v = .int .i64 n ∧ wr.heap[w.heap.size]? = some (.stringIter s pos) ∧ Below w.heap.size w wr ∧ Hid (Gly.cnt n (s.data.toList.drop pos) = Gly.cnt 0 s.data.toList) ∧ n ≤ pos ∧ pos ≤ s.size) (fun _ wr => s.size - wr.iterPos w.heap.size)
  case atStart => exact ⟨0, 0, rfl, World.iter_heap w s 0, (Below.refl _ _).alloc (Nat.le_refl _) _, rfl, by omega, by omega⟩
  case round =>
    obtain ⟨pos, n, rfl, hit, hbw, HS, hn, hps⟩ := hrel
    have hpos0 := iterPos_of hit
    by_cases hp : pos < s.size
    · have hnx : ∀ ty, (Instr.next (.pointer (some ⟨w.heap.size, 0, none⟩)) true ty).run Tryz.prog wr = _ := fun ty => Lib.run_next_any_at wr w.heap.size s pos ty hit hp
      have hwd := width s pos hp
      have hit2 := Lib.iterAt_heap wr w.heap.size s pos (pos + (Utf8.decode s pos).2) hit
      have hbw2 := Lib.below_iterAt hbw (k := w.heap.size) (Nat.le_refl _) s (pos + (Utf8.decode s pos).2)
      obtain ⟨W1, hW1⟩ : ∃ W1, W1 = wr.iterAt w.heap.size s (pos + (Utf8.decode s pos).2) := ⟨_, rfl⟩
      rw [← hW1] at hnx hit2 hbw2
      clear hW1 hit hbw
      have hst := stray_dec s pos hp
      cases hb : Gly.bad (s.data.toList.drop pos) with
      | true =>
        have hc := HS.out
        rw [Gly.cnt_bad (drop_ne hp) hb] at hc
        rw [hb] at hst
        have HST := Lib.hid hst
        have HC := Lib.hid hc
        clear hst hb hc
        go_wp2_with (go_at_call 117; refine (HST.out _).mono ?_; rintro e w' ⟨rfl, rfl⟩)
        go_ret2
        exact ⟨by rw [← HC.out]; rfl, hbw2⟩
      | false =>
        have hc := HS.out
        rw [Gly.cnt_step (drop_ne hp) hb, drop_next] at hc
        rw [hb] at hst
        have HST := Lib.hid hst
        have HC := Lib.hid hc
        clear hst hb hc
        go_wp2_with (go_at_call 117; refine (HST.out _).mono ?_; rintro e w' ⟨rfl, rfl⟩)
        go_roundw
        case rel => exact ⟨_, n + 1, by go_num, hit2, hbw2, HC, by omega, by omega⟩
        case measure => rw [iterPos_of hit2, hpos0]; omega
    · have hnx : ∀ ty, (Instr.next (.pointer (some ⟨w.heap.size, 0, none⟩)) true ty).run Tryz.prog wr = _ := fun ty => Lib.run_next_end_at wr w.heap.size s pos ty hit hp
      have hc := HS.out
      rw [drop_end hp, Gly.cnt_nil] at hc
      have HC := Lib.hid hc
      clear hc
      go_wp2
      go_ret2
      exact ⟨by rw [← HC.out]; rfl, hbw⟩

end Gl
end Go.Proofs.YtopncohhagebbaaGreatDoor

namespace Go.Proofs.YtopncohhagebbaaGreatDoor
open Go.RowKit
namespace Order

section
variable {P : Program} {ops : Array Oper} {Q : Exit → Act → World → Prop} {md : Region.Mode}
theorem any_mono {S T : World → Prop} (h : ∀ x, S x → T x) : ∀ (fuel : Nat) (listed : Array Bool) (a : Act) (w : World), wpAnyH P md ops Q S fuel listed a w → wpAnyH P md ops Q T fuel listed a w
  | 0, _, _, _, k => k
  | fuel + 1, _, _, _, k => ⟨k.1, fun i hi => wpOp_mono (fun a' w' k' => ⟨h _ k'.1, any_mono h fuel _ a' w' k'.2⟩) (k.2 i hi)⟩

def Reads (P : Program) (ops : Array Oper) (S : World → Prop) (K : Act → Prop) : List Oper → Act → Prop
  | [], a => K a
  | o :: rest, a => (Region.wanted o (yielded ops a.tmps) = true ∧ ∃ v, (∀ x, S x → (execOp a.eval o).run P x = .ok (.value v) x) ∧ Reads P ops S K rest (a.put o.dst v)) ∨
      (Region.wanted o (yielded ops a.tmps) = false ∧ Reads P ops S K rest (a.put o.dst undef))
theorem reads_on {S : World → Prop} {K : Act → Prop} {o : Oper} {rest : List Oper} {a : Act} {v : Value} (hw : Region.wanted o (yielded ops a.tmps) = true) (h : ∀ x, S x → (execOp a.eval o).run P x = .ok (.value v) x)
    (k : Reads P ops S K rest (a.put o.dst v)) : Reads P ops S K (o :: rest) a := .inl ⟨hw, v, h, k⟩
theorem reads_off {S : World → Prop} {K : Act → Prop} {o : Oper} {rest : List Oper} {a : Act} (hw : Region.wanted o (yielded ops a.tmps) = false)
    (k : Reads P ops S K rest (a.put o.dst undef)) : Reads P ops S K (o :: rest) a := .inr ⟨hw, k⟩
theorem reads_end {S : World → Prop} {K : Act → Prop} {a : Act} (h : K a) : Reads P ops S K [] a := h

def readsB (md : Region.Mode) (ops : Array Oper) : List Nat → Array Bool → Bool
  | [], _ => true
  | i :: rest, listed => (Region.ready md ops listed).contains i && Region.free md ops listed i && readsB md ops rest (listed.setIfInBounds i true)
def listedBy : List Nat → Array Bool → Array Bool
  | [], l => l
  | i :: rest, l => listedBy rest (l.setIfInBounds i true)
def pick (ops : Array Oper) : List Nat → List Oper
  | [] => []
  | i :: rest => match ops[i]? with
    | some o => o :: pick ops rest
    | none => pick ops rest

theorem reads_any {S : World → Prop} {w : World} (hs : Region.noSelect ops = true) (hS : S w) (hQ : ∀ c d v a w, Q (.panic c) (Act.put a d v) w → Q (.panic c) a w) (fuel : Nat) : ∀ (idx : List Nat) (listed : Array Bool) (a : Act),
    readsB md ops idx listed = true → Reads P ops S (fun a' => wpAnyH P md ops Q S fuel (listedBy idx listed) a' w) (pick ops idx) a → wpAnyH P md ops Q S (fuel + idx.length) listed a w
  | [], _, _, _, h => h
  | i :: rest, listed, a, hB, h => by
    simp only [readsB, Bool.and_eq_true] at hB
    obtain ⟨⟨hr, hf⟩, hB'⟩ := hB
    cases ho : ops[i]? with
    | none =>
      have hm : i ∈ Region.ready md ops listed := by simpa using hr
      obtain ⟨_, oj, hoj, _⟩ := mem_ready.1 hm
      rw [ho] at hoj
      cases hoj
    | some o =>
      simp only [pick, ho] at h
      rw [List.length_cons, ← Nat.add_assoc]
      have go : ∀ v, YieldsIf P ops S o v a → Reads P ops S (fun a' => wpAnyH P md ops Q S fuel (listedBy (i :: rest) listed) a' w) (pick ops rest) (a.put o.dst v) → wpAnyH P md ops Q S (fuel + rest.length + 1) listed a w := fun v hy hk =>
        wpAnyH_take (v := v) ho hs hf hr (fun c a w => hQ c o.dst v a w) hy hS (reads_any hs hS hQ fuel rest _ _ hB' hk)
      rcases h with ⟨hw, v, hv, hk⟩ | ⟨hw, hk⟩
      · exact go v (.inl ⟨hw, hv⟩) hk
      · exact go undef (.inr ⟨hw, rfl⟩) hk

theorem acts_any {R : World → World → Prop} (hR : ∀ {x y z}, R x y → R y z → R x z) {w : World} {fuel i : Nat} {listed : Array Bool} {a : Act} {o : Oper} (hi : ops[i]? = some o) (hr : Region.ready md ops listed = [i])
    (hw : Region.wanted o (yielded ops a.tmps) = true) (h : o.wp P a w (fun a' x => R w x ∧ wpAnyH P md ops Q (R x) fuel (listed.setIfInBounds i true) a' x) Q) :
    wpAnyH P md ops Q (R w) (fuel + 1) listed a w := by
  refine wpAnyH_all hr (by simp) fun j hj => ?_
  rw [List.mem_singleton] at hj
  subst hj
  unfold wpOp
  simp only [hi, hw, if_true]
  exact .inl (Oper.wp_mono (fun a' x hx => ⟨hx.1, any_mono (fun y hy => hR hx.1 hy) _ _ _ _ hx.2⟩) h)
theorem region_begin {id : Nat} {S : World → Prop} {a : Act} {w : World} (hm : P.follows .mixedOrders = true) (h : wpAnyH P .any ops (NoPanic Q) S ops.size (Array.replicate ops.size false) a w.drew) : (Code.region id ops true).wp P Q a w :=
  wp_region_noPanic (wp_region_held hm h)
theorem noPanic_put {c : List PanicEntry} {d : Option Tmp} {v : Value} {a : Act} {w : World} (h : NoPanic Q (.panic c) (Act.put a d v) w) : NoPanic Q (.panic c) a w := h
end
def Fresh (w x : World) : Prop := Below w.heap.size w x
theorem Fresh.refl (w : World) : Fresh w w := Below.refl _ _
theorem Fresh.trans {x y z : World} (h : Fresh x y) (k : Fresh y z) : Fresh x z := Below.trans h (Below.mono k (Below.size h))
end Order
end Go.Proofs.YtopncohhagebbaaGreatDoor

namespace Go.Proofs.YtopncohhagebbaaGreatDoor
open Go.RowKit
namespace Who

theorem wp_region_class {P : Program} {C : World → Prop} {id : Nat} {Q : Exit → Act → World → Prop} {a : Act} {w : World} {l : List Oper} (hm : P.follows .mixedOrders = true) (hB : Region.lexB .any l.toArray = true) (hC : C w.drew)
    (h : wpQuiet P l.toArray C (fun a' => ∀ w', C w' → Q .normal a' w') l a) : (Code.region id l.toArray true).wp P Q a w :=
  wp_region_quiet (C := C) hm hB hC (by simpa using h)
theorem quiet_of {P : Program} {C : World → Prop} {o : Oper} {a : Act} {K : Act → Prop} {v : Value} (h : ∀ x, C x → o.quietAt P a C x v) (hk : K (a.put o.dst v)) : o.quiet P a C K := ⟨v, h, hk⟩
end Who
end Go.Proofs.YtopncohhagebbaaGreatDoor
