/-
  What of memory a call may turn; and an append to bytes that the call owns: the row that comes back is the old one or a new one.
-/
import Derived.Test.YtldacdpejncbnaaHeld
import Derived.Lib.AppendStr
import Derived.Lib.UnsafeStr
import Derived.OwnWalk
namespace Go.Proofs.Ytldacdpejncbnaa
open Go.RowKit
namespace Knot

/-- Of the blocks that were there only those of F may have turned. -/
structure Turns (F : Nat → Prop) (w x : World) : Prop where
  os : x.os = w.os
  tape : x.tape = w.tape
  output : x.output = w.output
  size : w.heap.size ≤ x.heap.size
  block : ∀ k, k < w.heap.size → ¬ F k → x.heap[k]? = w.heap[k]?

theorem Turns.refl (F : Nat → Prop) (w : World) : Turns F w w := ⟨rfl, rfl, rfl, Nat.le_refl _, fun _ _ _ => rfl⟩
theorem Turns.mono {F G : Nat → Prop} {w x : World} (h : Turns F w x) (hF : ∀ k, k < w.heap.size → F k → G k) : Turns G w x :=
  ⟨h.os, h.tape, h.output, h.size, fun k hk hn => h.block k hk fun hf => hn (hF k hk hf)⟩
theorem Turns.trans {F G : Nat → Prop} {w x y : World} (h : Turns F w x) (h2 : Turns G x y) (hG : ∀ k, k < w.heap.size → G k → F k) : Turns F w y :=
  ⟨h2.os.trans h.os, h2.tape.trans h.tape, h2.output.trans h.output, Nat.le_trans h.size h2.size,
    fun k hk hn => (h2.block k (Nat.lt_of_lt_of_le hk h.size) fun hg => hn (hG k hk hg)).trans (h.block k hk hn)⟩
theorem Turns.of_below {F : Nat → Prop} {w x : World} (h : Below w.heap.size w x) : Turns F w x :=
  ⟨h.os, h.tape, h.output, h.size, fun k hk _ => h.block k hk⟩
theorem Turns.then_below {F : Nat → Prop} {w x y : World} (h : Turns F w x) (h2 : Below x.heap.size x y) : Turns F w y := h.trans (Turns.of_below (F := F) h2) fun _ _ h => h
theorem Turns.after_below {F : Nat → Prop} {w x y : World} (h : Below w.heap.size w x) (h2 : Turns F x y) : Turns F w y := (Turns.of_below (F := F) h).trans h2 fun _ _ h => h
theorem Turns.below {F : Nat → Prop} {B : Nat} {w x : World} (h : Turns F w x) (hB : B ≤ w.heap.size) (hF : ∀ k, F k → B ≤ k) : Below B w x :=
  ⟨h.os, h.tape, h.output, h.size, fun k hk => h.block k (by omega) fun hf => by have := hF k hf; omega⟩
theorem Turns.of_grown {F : Nat → Prop} {w x : World} {row : Option Nat} (h : w.grownBy x row) (hF : ∀ k, row = some k → F k) : Turns F w x :=
  ⟨h.os, h.tape, h.output, h.size, fun k hk hn => h.block k hk fun e => hn (hF k e.symm)⟩
theorem Turns.setCell {F : Nat → Prop} {w x : World} (h : Turns F w x) {p : Addr} (hp : F p.block) (v : Value) : Turns F w (x.setCell p v) :=
  h.trans (G := fun k => k = p.block) ⟨rfl, rfl, rfl, by simp [World.setCell], fun k _ hn => Below.heap_setCell _ _ _ _ hn⟩ fun k _ e => by rw [e]; exact hp
theorem Turns.setNew {F : Nat → Prop} {w x : World} (h : Turns F w x) {p : Addr} (hp : w.heap.size ≤ p.block) (v : Value) : Turns F w (x.setCell p v) :=
  ⟨h.os, h.tape, h.output, by have := h.size; simpa [World.setCell] using this, fun k hk hn => (Below.heap_setCell _ _ _ _ (by omega)).trans (h.block k hk hn)⟩
/-- A new block that a call's own things lie in. -/
theorem Turns.heap {F : Nat → Prop} {w x : World} (h : Turns F w x) {k : Nat} {o : Obj} (hk : w.heap[k]? = some o) (hn : ¬ F k) : x.heap[k]? = some o := (h.block k (Array.getElem?_eq_some_iff.1 hk).1 hn).trans hk
theorem Turns.alloc {F : Nat → Prop} {w x : World} (h : Turns F w x) (o : Obj) : Turns F w (x.alloc o) := h.then_below ((Below.refl _ _).alloc (Nat.le_refl _) o)
theorem Turns.cell {F : Nat → Prop} {w x : World} (h : Turns F w x) {p : Addr} (hp : p.block < w.heap.size) (hn : ¬ F p.block) : x.cell? p = w.cell? p := World.cell?_of_block (w := w) (h.block p.block hp hn)
theorem Turns.frozen {F : Nat → Prop} {w x : World} (h : Turns F w x) {p : Addr} (hp : p.block < w.heap.size) (hn : ¬ F p.block) : x.frozen? p = w.frozen? p := World.frozen?_of_block (w := w) (h.block p.block hp hn)

/-! ### appends -/
/-- A type of bytes, and of lists of them. -/
structure IsBytes (P : Program) (t e : TypeId) (i : TypeInfo) : Prop where
  under : P.underlying t = some (.slice e)
  info : P.info? e = some i
  zero : i.zero = some (.int .u8 0)
  size : i.size = 1
  bytes : i.bytes = 1
/-- The row is the old one, or a new one. -/
def NewRow (w : World) (v v' : Value) : Prop := ∀ k, v'.ownBlock = some k → v.ownBlock = some k ∨ w.heap.size ≤ k
theorem NewRow.refl (w : World) (v : Value) : NewRow w v v := fun _ h => .inl h

section
variable {P : Program} {w : World} {t e : TypeId} {i : TypeInfo}
theorem append_row (T : IsBytes P t e i) (ty : TypeId) {B n m c : Nat} {v : Value} {xs news : List Value} {ad : Addr} (hown : w.ownsRow B e 1 v n xs) (hB : B ≤ w.heap.size)
    (hl : news.length = m) (hn : ∀ j u, news[j]? = some u → w.cell? (ad.add j) = some u) (h1 : ∀ u ∈ news, u.oneCell' = true) (hs : n + m ≤ 100000000) :
    ∃ v' x, (Builtin.append_ #[t, t] ty #[v, .slice (some ad) m c]).run P w = .ok v' x ∧ x.ownsRow B e 1 v' (n + m) (xs ++ news) ∧ w.grownBy x v.ownBlock ∧ NewRow w v v' := by
  have key := fun b hb ho => run_append_own (P := P) w b t ty e i (.int .u8 0) 1 1 T.under T.info T.zero T.size T.bytes rfl (by decide) v n xs ho ad m c news (by omega) hn h1 (by unfold maxLen; omega) (by omega) hb
  obtain ⟨v', x, hr, h2, h3, -⟩ := key B hB hown
  refine ⟨v', x, hr, h2, h3, ?_⟩
  have hrow := hown.2
  rcases hrow with ⟨rfl, rfl⟩ | ⟨g, cap, cur, rfl, hbg, hg, hnc, hcm, hcs, htake⟩
  · have hx : xs = [] := List.eq_nil_of_length_eq_zero (by simpa using hown.1)
    subst hx
    obtain ⟨v2, x2, hr2, h22, -, -⟩ := key w.heap.size (Nat.le_refl _) (World.ownsRow_nil _ _ _ _)
    obtain ⟨rfl, rfl⟩ := Result.ok.inj (hr.symm.trans hr2)
    exact fun k hk => .inr (h22.lt k hk).1
  · by_cases hroom : n + m ≤ cap
    · have hr2 := run_append_room (P := P) w t ty e i T.under T.info g n cap cur hg ad m c news (by rw [T.size]; omega) hn h1 hroom (by rw [T.size, hcs]; omega)
      obtain ⟨rfl, rfl⟩ := Result.ok.inj (hr.symm.trans hr2)
      exact fun k hk => .inl hk
    · have holds : ∀ j u, xs[j]? = some u → w.cell? ((⟨g, 0, none⟩ : Addr).add j) = some u := hown.cells (g := g) rfl
      have hr2 := run_append_grow (P := P) w t ty e i (.int .u8 0) T.under T.info T.zero ⟨g, 0, none⟩ n cap xs (by rw [T.size]; exact hown.1) holds ad m c news (by rw [T.size]; omega) hn (by omega) (by omega) (growslice_fits (by omega) (by rw [T.bytes]; omega))
      obtain ⟨rfl, rfl⟩ := Result.ok.inj (hr.symm.trans hr2)
      intro k hk
      have e1 : w.heap.size = k := Option.some.inj hk
      exact .inr (by omega)

theorem append_text (T : IsBytes P t e i) {u : TypeId} (hu : P.underlying u = some .string) (ty : TypeId) {B n : Nat} {v : Value} {xs : List Value} (hown : w.ownsRow B e 1 v n xs) (hB : B ≤ w.heap.size) (s : ByteArray) (hs : n + s.size ≤ 100000000) :
    ∃ v' x, (Builtin.append_ #[t, u] ty #[v, .string s]).run P w = .ok v' x ∧ x.ownsRow B e 1 v' (n + s.size) (xs ++ Lib.byteCells s.data.toList) ∧ w.grownBy x v.ownBlock ∧ NewRow w v v' := by
  have key := fun b hb ho => Lib.run_append_own_string (P := P) w b t u ty e i T.under hu T.info T.zero T.size T.bytes v n xs ho s (by unfold maxLen; omega) (by omega) hb
  obtain ⟨v', x, hr, h2, h3, -⟩ := key B hB hown
  refine ⟨v', x, hr, h2, h3, ?_⟩
  have hrow := hown.2
  rcases hrow with ⟨rfl, rfl⟩ | ⟨g, cap, cur, rfl, hbg, hg, hnc, hcm, hcs, htake⟩
  · have hx : xs = [] := List.eq_nil_of_length_eq_zero (by simpa using hown.1)
    subst hx
    obtain ⟨v2, x2, hr2, h22, -, -⟩ := key w.heap.size (Nat.le_refl _) (World.ownsRow_nil _ _ _ _)
    obtain ⟨rfl, rfl⟩ := Result.ok.inj (hr.symm.trans hr2)
    exact fun k hk => .inr (h22.lt k hk).1
  · by_cases hroom : n + s.size ≤ cap
    · have hr2 := Lib.run_append_room_string (P := P) w t u ty e i T.under hu T.info T.size g n cap cur hg s hroom (by omega)
      obtain ⟨rfl, rfl⟩ := Result.ok.inj (hr.symm.trans hr2)
      exact fun k hk => .inl hk
    · have holds : ∀ j u, xs[j]? = some u → w.cell? ((⟨g, 0, none⟩ : Addr).add j) = some u := hown.cells (g := g) rfl
      have hr2 := Lib.run_append_grow_string (P := P) w t u ty e i (.int .u8 0) T.under hu T.info T.zero ⟨g, 0, none⟩ n cap xs (by rw [T.size]; exact hown.1) holds s (by omega) (by omega) (growslice_fits (by omega) (by rw [T.bytes]; omega))
      obtain ⟨rfl, rfl⟩ := Result.ok.inj (hr.symm.trans hr2)
      intro k hk
      have e1 : w.heap.size = k := Option.some.inj hk
      exact .inr (by omega)

section
variable {ops : Array Oper} {rest : List Oper} {o : Oper} {a : Act} {Q : Exit → Act → World → Prop}
/-- For the walk: bytes behind bytes. -/
theorem walk_row (T : IsBytes P t e i) (hgd : o.guard = none) (s x : Operand) (ho : o.op = .call { callee := .builtin .append, args := #[s, x], argTypes := #[t, t] })
    {B n m c : Nat} {v : Value} {xs news : List Value} {ad : Addr} (hs : a.eval s = v) (hx : a.eval x = .slice (some ad) m c) (hown : w.ownsRow B e 1 v n xs) (hB : B ≤ w.heap.size)
    (hl : news.length = m) (hn : ∀ j u, news[j]? = some u → w.cell? (ad.add j) = some u) (h1 : ∀ u ∈ news, u.oneCell' = true) (hz : n + m ≤ 100000000)
    (h : ∀ v' y, y.ownsRow B e 1 v' (n + m) (xs ++ news) → w.grownBy y v.ownBlock → NewRow w v v' → wpList P ops Q rest (a.put o.dst v') y) : wpList P ops Q (o :: rest) a w := by
  refine wpList_plain hgd fun K hK => ?_
  obtain ⟨v', y, hr, h2, h3, h4⟩ := append_row T o.type hown hB hl hn h1 hz (c := c)
  unfold Oper.wp execOp
  simp only [ho, resolve, invoke, builtin, Sem.run_bind, Sem.run_pure, Result.andThen_ok, List.map_toArray, List.map_cons, List.map_nil, hs, hx, hr]
  exact hK _ _ (h v' y h2 h3 h4)
/-- For the walk: a text's bytes behind bytes. -/
theorem walk_text (T : IsBytes P t e i) {u : TypeId} (hu : P.underlying u = some .string) (hgd : o.guard = none) (s x : Operand) (ho : o.op = .call { callee := .builtin .append, args := #[s, x], argTypes := #[t, u] })
    {B n : Nat} {v : Value} {xs : List Value} {z : ByteArray} (hs : a.eval s = v) (hx : a.eval x = .string z) (hown : w.ownsRow B e 1 v n xs) (hB : B ≤ w.heap.size) (hz : n + z.size ≤ 100000000)
    (h : ∀ v' y, y.ownsRow B e 1 v' (n + z.size) (xs ++ Lib.byteCells z.data.toList) → w.grownBy y v.ownBlock → NewRow w v v' → wpList P ops Q rest (a.put o.dst v') y) : wpList P ops Q (o :: rest) a w := by
  refine wpList_plain hgd fun K hK => ?_
  obtain ⟨v', y, hr, h2, h3, h4⟩ := append_text T hu o.type hown hB z hz
  unfold Oper.wp execOp
  simp only [ho, resolve, invoke, builtin, Sem.run_bind, Sem.run_pure, Result.andThen_ok, List.map_toArray, List.map_cons, List.map_nil, hs, hx, hr]
  exact hK _ _ (h v' y h2 h3 h4)
end
end
end Knot
end Go.Proofs.Ytldacdpejncbnaa
