/-
  Rows of elements of whatever size that a call owns: an append to them; a row cut short; one that stays while other blocks turn.
-/
import Derived.Test.YtldacdpejncbnaaTurn
namespace Go.Proofs.Ytldacdpejncbnaa
open Go.RowKit
namespace Tr
open Knot (Turns NewRow)

/-- A type of lists, and of their elements. -/
structure IsElem (P : Program) (t e : TypeId) (i : TypeInfo) (z : Value) (c b : Nat) : Prop where
  under : P.underlying t = some (.slice e)
  info : P.info? e = some i
  zero : i.zero = some z
  size : i.size = c
  bytes : i.bytes = b
  cells : z.cells.size = c
  pos : 0 < c
section
variable {P : Program} {w : World} {t e : TypeId} {i : TypeInfo} {z : Value} {sz by' : Nat}
theorem append_rows (T : IsElem P t e i z sz by') (ty : TypeId) {B n m c : Nat} {v : Value} {xs news : List Value} {ad : Addr} (hown : w.ownsRow B e sz v n xs) (hB : B ≤ w.heap.size)
    (hl : news.length = m * sz) (hn : ∀ j u, news[j]? = some u → w.cell? (ad.add j) = some u) (h1 : ∀ u ∈ news, u.oneCell' = true) (hs : n + m ≤ 100000000) (hb : (n + m) * by' ≤ 140737488355328) :
    ∃ v' x, (Builtin.append_ #[t, t] ty #[v, .slice (some ad) m c]).run P w = .ok v' x ∧ x.ownsRow B e sz v' (n + m) (xs ++ news) ∧ w.grownBy x v.ownBlock ∧ NewRow w v v' := by
  have key := fun b hb' ho => run_append_own (P := P) w b t ty e i z sz by' T.under T.info T.zero T.size T.bytes T.cells T.pos v n xs ho ad m c news hl hn h1 (by unfold maxLen; omega) hb hb'
  obtain ⟨v', x, hr, h2, h3, -⟩ := key B hB hown
  refine ⟨v', x, hr, h2, h3, ?_⟩
  have hrow := hown.2
  rcases hrow with ⟨rfl, rfl⟩ | ⟨g, cap, cur, rfl, hbg, hg, hnc, hcm, hcs, htake⟩
  · have hx : xs = [] := List.eq_nil_of_length_eq_zero (by simpa using hown.1)
    subst hx
    obtain ⟨v2, x2, hr2, h22, -, -⟩ := key w.heap.size (Nat.le_refl _) (World.ownsRow_nil _ _ _ _)
    obtain ⟨rfl, rfl⟩ := Result.ok.inj (hr.symm.trans hr2)
    exact fun k hk => .inr (h22.lt k hk).1
  · by_cases hroom : n + m ≤ cap
    · have hfit : n * i.size + news.length ≤ cur.size := by rw [T.size, hl, hcs, ← Nat.add_mul]; exact Nat.mul_le_mul_right _ hroom
      have hr2 := run_append_room (P := P) w t ty e i T.under T.info g n cap cur hg ad m c news (by rw [T.size]; exact hl) hn h1 hroom hfit
      obtain ⟨rfl, rfl⟩ := Result.ok.inj (hr.symm.trans hr2)
      exact fun k hk => .inl hk
    · have holds : ∀ j u, xs[j]? = some u → w.cell? ((⟨g, 0, none⟩ : Addr).add j) = some u := hown.cells (g := g) rfl
      have hr2 := run_append_grow (P := P) w t ty e i z T.under T.info T.zero ⟨g, 0, none⟩ n cap xs (by rw [T.size]; exact hown.1) holds ad m c news (by rw [T.size]; exact hl) hn (by omega) (by omega) (growslice_fits (by omega) (by rw [T.bytes]; exact hb))
      obtain ⟨rfl, rfl⟩ := Result.ok.inj (hr.symm.trans hr2)
      intro k hk
      have e1 : w.heap.size = k := Option.some.inj hk
      exact .inr (by omega)
section
variable {ops : Array Oper} {rest : List Oper} {o : Oper} {a : Act} {Q : Exit → Act → World → Prop}
/-- Nothing behind elements. -/
theorem append_none (T : IsElem P t e i z sz by') (ty : TypeId) {B n : Nat} {v : Value} {xs : List Value} (hown : w.ownsRow B e sz v n xs) (hs : n ≤ 100000000) :
    (Builtin.append_ #[t, t] ty #[v, .slice none 0 0]).run P w = .ok v w := by
  rcases hown.2 with ⟨rfl, rfl⟩ | ⟨g, cap, cur, rfl, hbg, hg, hnc, hcm, hcs, htake⟩
  · simp [Builtin.append_, run_underlying T.under, sizeOf, typeInfo, T.info, Builtin.lenOf, Builtin.firstCells]
  · have h1 : ¬ (9223372036854775807 < (n : Int)) := by omega
    simp [Builtin.append_, run_underlying T.under, sizeOf, typeInfo, T.info, Builtin.lenOf, Builtin.firstCells, loadCells, hnc, storeCells]
theorem wp_none {K : Act → World → Prop} (T : IsElem P t e i z sz by') (s x : Operand) (ho : o.op = .call { callee := .builtin .append, args := #[s, x], argTypes := #[t, t] })
    {B n : Nat} {v : Value} {xs : List Value} (hs : a.eval s = v) (hx : a.eval x = .slice none 0 0) (hown : w.ownsRow B e sz v n xs) (hz : n ≤ 100000000) (h : K (a.put o.dst v) w) : o.wp P a w K Q := by
  have hr := append_none T o.type hown hz
  unfold Oper.wp execOp
  simp only [ho, resolve, invoke, builtin, Sem.run_bind, Sem.run_pure, Result.andThen_ok, List.map_toArray, List.map_cons, List.map_nil, hs, hx, hr]
  exact h
/-- Elements behind elements, an operation alone. -/
theorem wp_rows {K : Act → World → Prop} (T : IsElem P t e i z sz by') (s x : Operand) (ho : o.op = .call { callee := .builtin .append, args := #[s, x], argTypes := #[t, t] })
    {B n m c : Nat} {v : Value} {xs news : List Value} {ad : Addr} (hs : a.eval s = v) (hx : a.eval x = .slice (some ad) m c) (hown : w.ownsRow B e sz v n xs) (hB : B ≤ w.heap.size)
    (hl : news.length = m * sz) (hn : ∀ j u, news[j]? = some u → w.cell? (ad.add j) = some u) (h1 : ∀ u ∈ news, u.oneCell' = true) (hz : n + m ≤ 100000000) (hb : (n + m) * by' ≤ 140737488355328)
    (h : ∀ v' y, y.ownsRow B e sz v' (n + m) (xs ++ news) → w.grownBy y v.ownBlock → NewRow w v v' → K (a.put o.dst v') y) : o.wp P a w K Q := by
  obtain ⟨v', y, hr, h2, h3, h4⟩ := append_rows T o.type hown hB hl hn h1 hz hb (c := c)
  unfold Oper.wp execOp
  simp only [ho, resolve, invoke, builtin, Sem.run_bind, Sem.run_pure, Result.andThen_ok, List.map_toArray, List.map_cons, List.map_nil, hs, hx, hr]
  exact h v' y h2 h3 h4
/-- For the walk: elements behind elements. -/
theorem walk_rows (T : IsElem P t e i z sz by') (hgd : o.guard = none) (s x : Operand) (ho : o.op = .call { callee := .builtin .append, args := #[s, x], argTypes := #[t, t] })
    {B n m c : Nat} {v : Value} {xs news : List Value} {ad : Addr} (hs : a.eval s = v) (hx : a.eval x = .slice (some ad) m c) (hown : w.ownsRow B e sz v n xs) (hB : B ≤ w.heap.size)
    (hl : news.length = m * sz) (hn : ∀ j u, news[j]? = some u → w.cell? (ad.add j) = some u) (h1 : ∀ u ∈ news, u.oneCell' = true) (hz : n + m ≤ 100000000) (hb : (n + m) * by' ≤ 140737488355328)
    (h : ∀ v' y, y.ownsRow B e sz v' (n + m) (xs ++ news) → w.grownBy y v.ownBlock → NewRow w v v' → wpList P ops Q rest (a.put o.dst v') y) : wpList P ops Q (o :: rest) a w := by
  refine wpList_plain hgd fun K hK => ?_
  obtain ⟨v', y, hr, h2, h3, h4⟩ := append_rows T o.type hown hB hl hn h1 hz hb (c := c)
  unfold Oper.wp execOp
  simp only [ho, resolve, invoke, builtin, Sem.run_bind, Sem.run_pure, Result.andThen_ok, List.map_toArray, List.map_cons, List.map_nil, hs, hx, hr]
  exact hK _ _ (h v' y h2 h3 h4)
end
end
theorem addp (b o i : Nat) : (⟨b, o, none⟩ : Addr).add i = ⟨b, o + i, none⟩ := by unfold Addr.add; split <;> simp_all
section
variable {w x : World} {B n c : Nat} {e : TypeId} {v : Value} {xs : List Value}
theorem own_turn {F : Nat → Prop} (h : w.ownsRow B e c v n xs) (ht : Turns F w x) (hF : ∀ k, v.ownBlock = some k → ¬ F k) : x.ownsRow B e c v n xs := by
  refine ⟨h.1, ?_⟩
  rcases h.2 with hn | ⟨g, cap, cur, rfl, hb, hg, r⟩
  · exact .inl hn
  · exact .inr ⟨g, cap, cur, rfl, hb, (ht.block g (Array.getElem?_eq_some_iff.1 hg).1 (hF g rfl)).trans hg, r⟩
theorem own_below (h : w.ownsRow B e c v n xs) (hb : Below w.heap.size w x) : x.ownsRow B e c v n xs := own_turn (F := fun _ => False) h (Turns.of_below hb) fun _ _ h => h
theorem own_slice (h : w.ownsRow B e c v n xs) : ∃ ao cap, v = .slice ao n cap := by
  rcases h.2 with ⟨rfl, rfl⟩ | ⟨g, cap, cur, rfl, _⟩
  · exact ⟨_, _, rfl⟩
  · exact ⟨_, _, rfl⟩
/-- A row that isn't empty: where it lies. -/
theorem own_open (h : w.ownsRow B e c v (n + 1) xs) : ∃ g cap, v = .slice (some ⟨g, 0, none⟩) (n + 1) cap ∧ B ≤ g ∧ g < w.heap.size ∧ n + 1 ≤ cap ∧ ∀ j u, xs[j]? = some u → w.cell? ⟨g, j, none⟩ = some u := by
  rcases h.2 with ⟨-, h0⟩ | ⟨g, cap, cur, rfl, hb, hg, hn, -⟩
  · omega
  · refine ⟨g, cap, rfl, hb, (Array.getElem?_eq_some_iff.1 hg).1, hn, fun j u hu => ?_⟩
    have := h.cells (g := g) rfl j u hu
    rwa [addp, Nat.zero_add] at this
/-- A row without its last elements. -/
theorem own_cut {g cap m : Nat} (h : w.ownsRow B e c (.slice (some ⟨g, 0, none⟩) n cap) n xs) (hm : m ≤ n) : w.ownsRow B e c (.slice (some ⟨g, 0, none⟩) m cap) m (xs.take (m * c)) := by
  have hle : m * c ≤ n * c := Nat.mul_le_mul_right _ hm
  refine ⟨by rw [List.length_take, h.1]; omega, ?_⟩
  rcases h.2 with ⟨h0, -⟩ | ⟨g', cap', cur, hv, hb, hg, hn, hcm, hcs, htk⟩
  · cases h0
  · obtain ⟨hg1, -, rfl⟩ : some (⟨g, 0, none⟩ : Addr) = some ⟨g', 0, none⟩ ∧ n = n ∧ cap = cap' := by simpa using hv
    obtain rfl : g = g' := by simpa using hg1
    exact .inr ⟨g, cap, cur, rfl, hb, hg, by omega, hcm, hcs, by rw [← htk, List.take_take, Nat.min_eq_left hle]⟩
end
end Tr
end Go.Proofs.Ytldacdpejncbnaa
