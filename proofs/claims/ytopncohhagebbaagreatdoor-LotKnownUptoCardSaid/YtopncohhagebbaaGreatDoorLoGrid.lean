/-
  Layer 11: a row of things in a block of its own, one of which is stored anew at a time.
-/
import Derived.Test.YtopncohhagebbaaGreatDoorLoWide
import Derived.Test.YtopncohhagebbaaGreatDoorMgRd
import Derived.Test.YtopncohhagebbaaGreatDoorLoP
namespace Go.Proofs.YtopncohhagebbaaGreatDoor
open Go.RowKit
namespace Lo
open Tr (Nd none0 RowAt IsElem walk_rows append_rows own_slice)
open Gr (Al Rl Ty IsAl IsRl IsTy IsCf Lies alV relV tyV tAl tRl tTy tCf cellsV elT elR elA)
open Knot (Turns)

/-- What stays so, whatever turns in the blocks of F. -/
def Off (F : Nat → Prop) (w : World) (P : World → Prop) : Prop := ∀ x, Turns F w x → P x
section
variable {F G : Nat → Prop} {w x y : World} {P : World → Prop}
theorem Off.now (h : Off F w P) : P w := h w (Turns.refl F w)
theorem Off.turn (h : Off F w P) (ht : Turns F w y) : Off F y P := fun x hx => h x (ht.trans hx fun _ _ h => h)
theorem Off.below (h : Off F w P) (hb : Below w.heap.size w y) : Off F y P := h.turn (Turns.of_below hb)
theorem Off.less (h : Off F w P) (hG : ∀ k, k < w.heap.size → G k → F k) : Off G w P := fun x hx => h x (hx.mono hG)
end
/-- A row of things in the block G: each lies there, and stays so when the blocks of F turn. -/
def Grid {α : Type} (P : World → α → Value → Prop) (F : Nat → Prop) (c : Nat) (e : TypeId) (G : Nat) (x : World) (L : List α) : Prop :=
  ∃ cur : Array Value, x.heap[G]? = some (.cells cur e (0, 0)) ∧ ∀ (i : Nat) (a : α), L[i]? = some a → ∃ u, u.cells.size = c ∧ (∀ j z, u.cells[j]? = some z → cur[i * c + j]? = some z) ∧ Off F x (fun y => P y a u)
section
variable {α : Type} {P : World → α → Value → Prop} {F K : Nat → Prop} {c G : Nat} {e : TypeId} {x y : World} {L : List α}
theorem Grid.turn (h : Grid P F c e G x L) (ht : Turns K x y) (hG : ¬ K G) (hK : ∀ k, K k → F k) : Grid P F c e G y L := by
  obtain ⟨cur, h1, h2⟩ := h
  refine ⟨cur, ht.heap h1 hG, fun i a ha => ?_⟩
  obtain ⟨u, h3, h4, h5⟩ := h2 i a ha
  exact ⟨u, h3, h4, h5.turn (ht.mono fun k _ hk => hK k hk)⟩
theorem Grid.below (h : Grid P F c e G x L) (hb : Below x.heap.size x y) : Grid P F c e G y L := h.turn (K := fun _ => False) (Turns.of_below hb) (fun h => h) fun _ h => h.elim
theorem Grid.lt (h : Grid P F c e G x L) : G < x.heap.size := by
  obtain ⟨cur, h1, -⟩ := h
  exact (Array.getElem?_eq_some_iff.1 h1).1
theorem Grid.at (h : Grid P F c e G x L) {i : Nat} {a : α} (ha : L[i]? = some a) : ∃ u, u.cells.size = c ∧ (∀ j z, u.cells[j]? = some z → x.cell? ⟨G, i * c + j, none⟩ = some z) ∧ P x a u := by
  obtain ⟨cur, h1, h2⟩ := h
  obtain ⟨u, h3, h4, h5⟩ := h2 i a ha
  refine ⟨u, h3, fun j z hz => ?_, h5.now⟩
  rw [Lib.cell_of_heap h1]
  exact h4 j z hz
theorem Grid.free (h : Grid P F c e G x L) (k : Nat) : x.frozen? ⟨G, k, none⟩ = false := by
  obtain ⟨cur, h1, -⟩ := h
  exact Lib.frozen_of_heap h1 k
theorem Grid.lies (h : Grid P F c e G x L) (hl : L.length ≤ maxLen) : ∃ us, Lies P c x (some ⟨G, 0, none⟩) L us := by
  obtain ⟨cur, h1, h2⟩ := h
  have h3 : ∀ i : Nat, ∃ u, ∀ a, L[i]? = some a → u.cells.size = c ∧ (∀ j z, u.cells[j]? = some z → cur[i * c + j]? = some z) ∧ P x a u := fun i => by
    cases ha : L[i]? with
    | none => exact ⟨undef, fun a h => by cases h⟩
    | some a =>
      obtain ⟨u, h3, h4, h5⟩ := h2 i a ha
      exact ⟨u, fun b hb => by cases hb; exact ⟨h3, h4, h5.now⟩⟩
  refine ⟨(List.range L.length).map fun i => (h3 i).choose, by simp, hl, fun _ => ⟨G, 0, rfl, fun i v hv => ?_⟩, fun i a u ha hu => ?_⟩
  · have hi : i < L.length := by
      have := (List.getElem?_eq_some_iff.1 hv).1
      simpa using this
    obtain rfl : (h3 i).choose = v := by simpa [hi] using hv
    obtain ⟨h4, h5, -⟩ := (h3 i).choose_spec _ (List.getElem?_eq_getElem hi)
    refine ⟨h4, fun j z hz => ?_⟩
    rw [Lib.cell_of_heap h1, Nat.zero_add]
    exact h5 j z hz
  · have hi : i < L.length := (List.getElem?_eq_some_iff.1 ha).1
    obtain rfl : (h3 i).choose = u := by simpa [hi] using hu
    exact ((h3 i).choose_spec _ ha).2.2
theorem Grid.of_own {FF : Nat → Nat → Prop} {B n : Nat} {v : Value} {us : List Value} (ho : x.ownsRow B e c v n (cellsV us)) (hL : L ≠ []) (hn : n = L.length) (hu : us.length = L.length) (hc : ∀ u ∈ us, u.cells.size = c)
    (hP : ∀ (i : Nat) (a : α) (u : Value), L[i]? = some a → us[i]? = some u → ∀ G, B ≤ G → G < x.heap.size → Off (FF G) x (fun y => P y a u)) :
    ∃ G cap, v = .slice (some ⟨G, 0, none⟩) n cap ∧ B ≤ G ∧ Grid P (FF G) c e G x L := by
  have hpos := List.length_pos_iff.2 hL
  rcases ho.2 with ⟨rfl, h1⟩ | ⟨g, cap, cur, rfl, hbg, hg, hnc, hcm, hcs, htake⟩
  · omega
  · refine ⟨g, cap, rfl, hbg, cur, hg, fun i a ha => ?_⟩
    have hi : i < L.length := (List.getElem?_eq_some_iff.1 ha).1
    have hui : us[i]? = some (us[i]'(by omega)) := List.getElem?_eq_getElem _
    refine ⟨us[i]'(by omega), hc _ (List.getElem_mem _), fun j z hz => ?_, hP i a _ ha hui g hbg (Array.getElem?_eq_some_iff.1 hg).1⟩
    have hj : j < c := by
      have := (Array.getElem?_eq_some_iff.1 hz).1
      rwa [hc _ (List.getElem_mem _)] at this
    have h4 := Gr.cellsV_at hc hui j hj
    rw [hz, ← htake, List.getElem?_take] at h4
    split at h4
    · simpa using h4
    · cases h4
theorem Grid.put (h : Grid P F c e G x L) {i j0 : Nat} {a a' : α} {z : Value} (hF : F G) (ha : L[i]? = some a) (hj0 : j0 < c)
    (hu : ∀ u, u.cells.size = c → Off F x (fun y => P y a u) → ∃ u', u'.cells.size = c ∧ (∀ j, j ≠ j0 → u'.cells[j]? = u.cells[j]?) ∧ u'.cells[j0]? = some z ∧ Off F x (fun y => P y a' u')) :
    Grid P F c e G (x.setCell ⟨G, i * c + j0, none⟩ z) (L.set i a') := by
  have ht : Turns F x (x.setCell ⟨G, i * c + j0, none⟩ z) := (Turns.refl F x).setCell hF z
  obtain ⟨cur, h1, h2⟩ := h
  refine ⟨_, Lib.heap_setCell_same h1 z, fun k b hb => ?_⟩
  by_cases e : k = i
  · subst e
    have hk : k < L.length := (List.getElem?_eq_some_iff.1 ha).1
    rw [List.getElem?_set_self hk] at hb
    obtain rfl : a' = b := Option.some.inj hb
    obtain ⟨u, h3, h4, h5⟩ := h2 k a ha
    obtain ⟨u', g1, g2, g3, g4⟩ := hu u h3 h5
    refine ⟨u', g1, fun j y hy => ?_, g4.turn ht⟩
    rw [Array.getElem?_setIfInBounds]
    by_cases ej : j = j0
    · subst ej
      obtain ⟨w0, hw0⟩ : ∃ w0, u.cells[j]? = some w0 := ⟨_, Array.getElem?_eq_getElem (by omega)⟩
      have hlt := (Array.getElem?_eq_some_iff.1 (h4 j w0 hw0)).1
      rw [if_pos rfl, if_pos hlt, ← g3, hy]
    · rw [if_neg (by omega)]
      exact h4 j y (by rw [← g2 j ej]; exact hy)
  · rw [List.getElem?_set_ne (Ne.symm e)] at hb
    obtain ⟨u, h3, h4, h5⟩ := h2 k b hb
    refine ⟨u, h3, fun j y hy => ?_, h5.turn ht⟩
    have hj : j < c := by
      have := (Array.getElem?_eq_some_iff.1 hy).1
      omega
    rw [Array.getElem?_setIfInBounds, if_neg, h4 j y hy]
    intro hc
    rcases Nat.lt_trichotomy i k with h | h | h
    · have := Nat.mul_le_mul_right c (show i + 1 ≤ k from h)
      rw [Nat.add_mul, Nat.one_mul] at this
      omega
    · exact e h.symm
    · have := Nat.mul_le_mul_right c (show k + 1 ≤ i from h)
      rw [Nat.add_mul, Nat.one_mul] at this
      omega
end

/-- What has not been stored anew: from place j on. -/
def Tail {α : Type} (P : α → Value → Prop) (c : Nat) (e : TypeId) (G : Nat) (x : World) (L : List α) (j : Nat) : Prop :=
  ∃ cur : Array Value, x.heap[G]? = some (.cells cur e (0, 0)) ∧ ∀ (i : Nat) (a : α), j ≤ i → L[i]? = some a → ∃ u, u.cells.size = c ∧ (∀ k z, u.cells[k]? = some z → cur[i * c + k]? = some z) ∧ P a u
section
variable {α : Type} {P : α → Value → Prop} {K : Nat → Prop} {c G j : Nat} {e : TypeId} {x y : World} {L : List α}
theorem Tail.below (h : Tail P c e G x L j) (hb : Below x.heap.size x y) : Tail P c e G y L j := by
  obtain ⟨cur, h1, h2⟩ := h
  exact ⟨cur, (hb.block _ (Array.getElem?_eq_some_iff.1 h1).1).trans h1, h2⟩
theorem Tail.next (h : Tail P c e G x L j) : Tail P c e G x L (j + 1) := by
  obtain ⟨cur, h1, h2⟩ := h
  exact ⟨cur, h1, fun i a hi => h2 i a (by omega)⟩
theorem Tail.at (h : Tail P c e G x L j) {a : α} (ha : L[j]? = some a) : ∃ u, u.cells.size = c ∧ (∀ k z, u.cells[k]? = some z → x.cell? ⟨G, j * c + k, none⟩ = some z) ∧ P a u := by
  obtain ⟨cur, h1, h2⟩ := h
  obtain ⟨u, h3, h4, h5⟩ := h2 j a (Nat.le_refl _) ha
  refine ⟨u, h3, fun k z hz => ?_, h5⟩
  rw [Lib.cell_of_heap h1]
  exact h4 k z hz
theorem Tail.put (h : Tail P c e G x L j) {j0 : Nat} (hj0 : j0 < c) (z : Value) : Tail P c e G (x.setCell ⟨G, j * c + j0, none⟩ z) L (j + 1) := by
  obtain ⟨cur, h1, h2⟩ := h
  refine ⟨_, Lib.heap_setCell_same h1 z, fun i a hi ha => ?_⟩
  obtain ⟨u, h3, h4, h5⟩ := h2 i a (by omega) ha
  refine ⟨u, h3, fun k y hy => ?_, h5⟩
  rw [Array.getElem?_setIfInBounds, if_neg, h4 k y hy]
  have := Nat.mul_le_mul_right c hi
  rw [Nat.add_mul, Nat.one_mul] at this
  omega
theorem Tail.of_own {B n : Nat} {v : Value} {us : List Value} (ho : x.ownsRow B e c v n (cellsV us)) (hL : L ≠ []) (hn : n = L.length) (hu : us.length = L.length) (hc : ∀ u ∈ us, u.cells.size = c)
    (hP : ∀ (i : Nat) (a : α) (u : Value), L[i]? = some a → us[i]? = some u → P a u) : ∃ G cap, v = .slice (some ⟨G, 0, none⟩) n cap ∧ B ≤ G ∧ Tail P c e G x L 0 := by
  obtain ⟨G, cap, h1, h2, cur, h3, h4⟩ := Grid.of_own (P := fun _ a u => P a u) (FF := fun _ _ => False) ho hL hn hu hc fun i a u hi hu G _ _ y _ => hP i a u hi hu
  refine ⟨G, cap, h1, h2, cur, h3, fun i a _ ha => ?_⟩
  obtain ⟨u, h5, h6, h7⟩ := h4 i a ha
  exact ⟨u, h5, h6, h7.now⟩
end

/-! ### a list copied behind a row -/
theorem append_none {P : Program} {t e : TypeId} {i : TypeInfo} {z : Value} {sz by' : Nat} (T : IsElem P t e i z sz by') (ty : TypeId) {B n : Nat} {v : Value} {xs : List Value} {w : World} (hown : w.ownsRow B e sz v n xs) (hs : n ≤ 100000000) (ao : Option Addr) (c : Nat) :
    (Builtin.append_ #[t, t] ty #[v, .slice ao 0 c]).run P w = .ok v w := by
  rcases hown.2 with ⟨rfl, rfl⟩ | ⟨g, cap, cur, rfl, hbg, hg, hnc, hcm, hcs, htake⟩
  · cases ao <;> simp [Builtin.append_, run_underlying T.under, sizeOf, typeInfo, T.info, Builtin.lenOf, Builtin.firstCells, loadCells, loadCellsFrom]
  · have h1 : ¬ (9223372036854775807 < (n : Int)) := by omega
    cases ao <;> simp [Builtin.append_, run_underlying T.under, sizeOf, typeInfo, T.info, Builtin.lenOf, Builtin.firstCells, loadCells, loadCellsFrom, hnc, storeCells]
theorem flat_size {c : Nat} : ∀ {vs : List Value}, (∀ v ∈ vs, v.cells.size = c) → (cellsV vs).length = vs.length * c
  | [], _ => by simp [cellsV]
  | v :: vs, h => by
    have ih := flat_size (vs := vs) fun x hx => h x (by simp [hx])
    have h1 := h v (by simp)
    rw [cellsV] at ih ⊢
    rw [List.flatMap_cons, List.length_append, ih, Array.length_toList, h1, List.length_cons, Nat.add_mul, Nat.one_mul]
    omega
theorem flat_cells {w : World} {c g o : Nat} {vs : List Value} (hc : 0 < c) (hr : RowAt w c g o vs) : ∀ k u, (cellsV vs)[k]? = some u → w.cell? ((⟨g, o, none⟩ : Addr).add k) = some u := fun k u hk => by
  have hs : ∀ v ∈ vs, v.cells.size = c := fun v hv => by
    obtain ⟨i, hi, rfl⟩ := List.getElem_of_mem hv
    exact (hr i _ (List.getElem?_eq_getElem hi)).1
  have hlt : k < vs.length * c := by
    have := (List.getElem?_eq_some_iff.1 hk).1
    rwa [flat_size hs] at this
  have hi : k / c < vs.length := Nat.div_lt_of_lt_mul (by rw [Nat.mul_comm]; exact hlt)
  have hj := Nat.mod_lt k hc
  have e : k / c * c + k % c = k := by rw [Nat.mul_comm]; exact Nat.div_add_mod k c
  have h1 := Gr.cellsV_at hs (List.getElem?_eq_getElem hi) (k % c) hj
  rw [e, hk] at h1
  have h2 := (hr (k / c) _ (List.getElem?_eq_getElem hi)).2 (k % c) u h1.symm
  rw [Tr.addp]
  rw [show o + k / c * c + k % c = o + k by omega] at h2
  exact h2
theorem append_lies {t e : TypeId} {i : TypeInfo} {z : Value} {c by' : Nat} (T : IsElem Tryz.prog t e i z c by') (hT : by' ≤ 300) (ty : TypeId) {α : Type} {P : World → α → Value → Prop} {B n : Nat} {v : Value} {xs us : List Value} {ao : Option Addr} {l : List α} {w : World} (cap : Nat)
    (hown : w.ownsRow B e c v n xs) (hB : B ≤ w.heap.size) (hl : Lies P c w ao l us) (hn : l.length ≤ 300000) (hn2 : n ≤ 10) (one : ∀ u ∈ cellsV us, u.oneCell' = true) :
    ∃ v' x, (Builtin.append_ #[t, t] ty #[v, .slice ao l.length cap]).run Tryz.prog w = .ok v' x ∧ x.ownsRow B e c v' (n + l.length) (xs ++ cellsV us) ∧ Below B w x := by
  by_cases h0 : l = []
  · subst h0
    obtain rfl : us = [] := List.eq_nil_of_length_eq_zero hl.len
    exact ⟨v, w, append_none T ty hown (by omega) ao cap, by simpa [cellsV] using hown, Below.refl _ _⟩
  · obtain ⟨g, q, rfl, hr⟩ := hl.row h0
    have hs : ∀ v ∈ us, v.cells.size = c := fun v hv => by
      obtain ⟨i, hi, rfl⟩ := List.getElem_of_mem hv
      exact (hr i _ (List.getElem?_eq_getElem hi)).1
    obtain ⟨v', x, h1, h2, h3, -⟩ := append_rows T ty hown hB (news := cellsV us) (m := l.length) (c := cap) (by rw [flat_size hs, hl.len]) (flat_cells T.pos hr) one (by omega) (Nat.le_trans (Nat.mul_le_mul_left _ hT) (by omega))
    exact ⟨v', x, h1, h2, (Below.refl _ _).grown h3 hB fun k hk => (World.ownsRow.lt hown k hk).1⟩
section
variable {ops : Array Oper} {rest : List Oper} {o : Oper} {a : Act} {Q : Exit → Act → World → Prop}
theorem walk_copy {t e : TypeId} {i : TypeInfo} {z : Value} {c by' : Nat} (T : IsElem Tryz.prog t e i z c by') (hT : by' ≤ 300) (hgd : o.guard = none) (s x : Operand) (ho : o.op = .call { callee := .builtin .append, args := #[s, x], argTypes := #[t, t] }) {α : Type} {P : World → α → Value → Prop} {w : World} {B cap : Nat} {ao : Option Addr} {l : List α} {us : List Value} {v : Value}
    (hs : a.eval s = v) (hx : a.eval x = .slice ao l.length cap) (hown : w.ownsRow B e c v 0 []) (hB : B ≤ w.heap.size) (hl : Lies P c w ao l us) (hn : l.length ≤ 300000) (one : ∀ u ∈ cellsV us, u.oneCell' = true)
    (h : ∀ v' y, y.ownsRow B e c v' l.length (cellsV us) → Below B w y → wpList Tryz.prog ops Q rest (a.put o.dst v') y) : wpList Tryz.prog ops Q (o :: rest) a w := by
  refine wpList_plain hgd fun K hK => ?_
  obtain ⟨v', y, hr, h2, h3⟩ := append_lies T hT o.type cap hown hB hl hn (by omega) one
  rw [Nat.zero_add, List.nil_append] at h2
  unfold Oper.wp execOp
  simp only [ho, resolve, invoke, builtin, Sem.run_bind, Sem.run_pure, Result.andThen_ok, List.map_toArray, List.map_cons, List.map_nil, hs, hx, hr]
  exact hK _ _ (h v' y h2 h3)
theorem wp_copy {K : Act → World → Prop} {t e : TypeId} {i : TypeInfo} {z : Value} {c by' : Nat} (T : IsElem Tryz.prog t e i z c by') (hT : by' ≤ 300) (s x : Operand) (ho : o.op = .call { callee := .builtin .append, args := #[s, x], argTypes := #[t, t] }) {α : Type} {P : World → α → Value → Prop} {w : World} {B n cap : Nat} {ao : Option Addr} {l : List α} {xs us : List Value} {v : Value}
    (hs : a.eval s = v) (hx : a.eval x = .slice ao l.length cap) (hown : w.ownsRow B e c v n xs) (hB : B ≤ w.heap.size) (hl : Lies P c w ao l us) (hn : l.length ≤ 300000) (hn2 : n ≤ 10) (one : ∀ u ∈ cellsV us, u.oneCell' = true)
    (h : ∀ v' y, y.ownsRow B e c v' (n + l.length) (xs ++ cellsV us) → Below B w y → K (a.put o.dst v') y) : o.wp Tryz.prog a w K Q := by
  obtain ⟨v', y, hr, h2, h3⟩ := append_lies T hT o.type cap hown hB hl hn hn2 one
  unfold Oper.wp execOp
  simp only [ho, resolve, invoke, builtin, Sem.run_bind, Sem.run_pure, Result.andThen_ok, List.map_toArray, List.map_cons, List.map_nil, hs, hx, hr]
  exact h v' y h2 h3
end
theorem one_ty {w : World} {ao : Option Addr} {l : List Ty} {us : List Value} (hl : Lies IsTy 2 w ao l us) : (∀ u ∈ us, u.cells.size = 2) ∧ ∀ u ∈ cellsV us, u.oneCell' = true := by
  have key : ∀ u ∈ us, ∃ a, IsTy w a u := fun u hu => by
    obtain ⟨i, hi, rfl⟩ := List.getElem_of_mem hu
    exact ⟨_, hl.is i (l[i]'(by have := hl.len; omega)) _ (List.getElem?_eq_getElem _) (List.getElem?_eq_getElem hi)⟩
  refine ⟨fun u hu => ?_, fun u hu => ?_⟩
  · obtain ⟨a, _, _, _, rfl, -⟩ := key u hu; rfl
  · rw [cellsV, List.mem_flatMap] at hu
    obtain ⟨t, ht, hu⟩ := hu
    obtain ⟨a, _, _, _, rfl, -⟩ := key t ht
    simp [Value.cells] at hu
    rcases hu with rfl | rfl <;> rfl
theorem one_rl {w : World} {ao : Option Addr} {l : List Rl} {us : List Value} (hl : Lies IsRl 6 w ao l us) : (∀ u ∈ us, u.cells.size = 6) ∧ ∀ u ∈ cellsV us, u.oneCell' = true := by
  have key : ∀ u ∈ us, ∃ a, IsRl w a u := fun u hu => by
    obtain ⟨i, hi, rfl⟩ := List.getElem_of_mem hu
    exact ⟨_, hl.is i (l[i]'(by have := hl.len; omega)) _ (List.getElem?_eq_getElem _) (List.getElem?_eq_getElem hi)⟩
  refine ⟨fun u hu => ?_, fun u hu => ?_⟩
  · obtain ⟨a, _, _, _, _, _, rfl, -⟩ := key u hu; rfl
  · rw [cellsV, List.mem_flatMap] at hu
    obtain ⟨t, ht, hu⟩ := hu
    obtain ⟨a, _, _, _, _, _, rfl, -⟩ := key t ht
    simp [Value.cells] at hu
    rcases hu with rfl | rfl | rfl | rfl | rfl | rfl <;> rfl
theorem one_al {w : World} {ao : Option Addr} {l : List Al} {us : List Value} (hl : Lies IsAl 3 w ao l us) : (∀ u ∈ us, u.cells.size = 3) ∧ ∀ u ∈ cellsV us, u.oneCell' = true := by
  have key : ∀ u ∈ us, ∃ a, u = alV a := fun u hu => by
    obtain ⟨i, hi, rfl⟩ := List.getElem_of_mem hu
    exact ⟨_, hl.is i (l[i]'(by have := hl.len; omega)) _ (List.getElem?_eq_getElem _) (List.getElem?_eq_getElem hi)⟩
  refine ⟨fun u hu => ?_, fun u hu => ?_⟩
  · obtain ⟨a, rfl⟩ := key u hu; rfl
  · rw [cellsV, List.mem_flatMap] at hu
    obtain ⟨t, ht, hu⟩ := hu
    obtain ⟨a, rfl⟩ := key t ht
    simp [Value.cells] at hu
    rcases hu with rfl | rfl | rfl <;> rfl
theorem On.turn {w x y : World} {L : List (Nat × Obj)} (h : On w L x) {K : Nat → Prop} (ht : Turns K x y) (hB : ∀ k, K k → w.heap.size ≤ k) (hL : ∀ p ∈ L, ¬ K p.1) : On w L y :=
  ⟨h.below.trans (ht.below h.below.size hB), fun p hp => ht.heap (h.has p hp) (hL p hp)⟩
theorem ix_ty (G n cap : Nat) {j : Nat} (hj : j < n) : ∀ W, (Instr.indexAt 22 (.slice (some ⟨G, 0, none⟩) n cap) (.int .i64 (j : Int))).run Tryz.prog W = .ok (.pointer (some ⟨G, j * 2, none⟩)) W := fun W => by
  rw [run_indexAt_slice W _ _ _ _ _ _ Gr.elemTy, if_pos ⟨by omega, by omega⟩, Gr.sizeTy]
  have e : ((j : Int)).toNat = j := by omega
  simp only [Result.andThen_ok, e, Addr.add_lit, Nat.zero_add]
theorem ix_rl (G n cap : Nat) {j : Nat} (hj : j < n) : ∀ W, (Instr.indexAt 38 (.slice (some ⟨G, 0, none⟩) n cap) (.int .i64 (j : Int))).run Tryz.prog W = .ok (.pointer (some ⟨G, j * 6, none⟩)) W := fun W => by
  rw [run_indexAt_slice W _ _ _ _ _ _ Gr.elemRl, if_pos ⟨by omega, by omega⟩, Gr.sizeRl]
  have e : ((j : Int)).toNat = j := by omega
  simp only [Result.andThen_ok, e, Addr.add_lit, Nat.zero_add]
/-- The wider configuration as it grows: its row of types, behind B and ahead of R; from j on each is as it was in w. -/
def Grow (w : World) (ty : ByteArray) (m : Al) (l : List Ty) (ao : Option Addr) (B R : Nat) (x : World) (j : Nat) : Prop :=
  l ≠ [] → ∃ G, ao = some ⟨G, 0, none⟩ ∧ B ≤ G ∧ G < R ∧ Grid IsTy (fun k => k = G) 2 tTy G x (mix (wideT ty m) l j) ∧ Tail (IsTy w) 2 tTy G x l j
theorem Grow.below {w : World} {ty : ByteArray} {m : Al} {l : List Ty} {ao : Option Addr} {B R : Nat} {x y : World} {j : Nat} (h : Grow w ty m l ao B R x j) (hb : Below x.heap.size x y) : Grow w ty m l ao B R y j := fun hl => by
  obtain ⟨G, h1, h2, h3, h4, h5⟩ := h hl
  exact ⟨G, h1, h2, h3, h4.below hb, h5.below hb⟩
theorem Grow.same {w : World} {ty : ByteArray} {m : Al} {l : List Ty} {ao : Option Addr} {B R : Nat} {x : World} {j : Nat} (h : Grow w ty m l ao B R x j) (hj : j < l.length) (hs : Lt.same l[j].name ty = false) : Grow w ty m l ao B R x (j + 1) := fun hl => by
  obtain ⟨G, h1, h2, h3, h4, h5⟩ := h hl
  refine ⟨G, h1, h2, h3, ?_, h5.next⟩
  rw [mix_same hj (by rw [wideT, hs, if_neg (by decide)])]
  exact h4
theorem Grow.is {w : World} {ty : ByteArray} {m : Al} {l : List Ty} {ao : Option Addr} {B R cap : Nat} {x : World} (h : Grow w ty m l ao B R x l.length) (hl : l.length ≤ maxLen) : IsCf x (l.map (wideT ty m)) (.agg #[.slice ao l.length cap]) := by
  by_cases h0 : l = []
  · subst h0
    exact ⟨ao, cap, [], rfl, ⟨rfl, Nat.zero_le _, fun h => absurd rfl h, fun i a u h => by simp at h⟩⟩
  · obtain ⟨G, rfl, -, -, h4, -⟩ := h h0
    rw [mix_all] at h4
    obtain ⟨us, hu⟩ := h4.lies (by rw [List.length_map]; exact hl)
    exact ⟨_, cap, us, by rw [List.length_map], hu⟩
/-- A type's wider relations as they grow, in a block of their own behind B. -/
def GrowR (m : Al) (l : List Rl) (ao : Option Addr) (G B : Nat) (x : World) (k : Nat) : Prop :=
  l ≠ [] → ∃ R, ao = some ⟨R, 0, none⟩ ∧ B ≤ R ∧ Grid IsRl (fun g => g = G ∨ g = R) 6 tRl R x (mix (wideR m) l k)
theorem GrowR.below {m : Al} {l : List Rl} {ao : Option Addr} {G B : Nat} {x y : World} {k : Nat} (h : GrowR m l ao G B x k) (hb : Below x.heap.size x y) : GrowR m l ao G B y k := fun hl => by
  obtain ⟨R, h1, h2, h3⟩ := h hl
  exact ⟨R, h1, h2, h3.below hb⟩
theorem GrowR.start {m : Al} {l : List Rl} {ao : Option Addr} {G B cap : Nat} {w x : World} {vs : List Value} {ro : Option Addr} (hl : Lies IsRl 6 w ro l vs) (hb : Below w.heap.size w x) (hG : w.heap.size ≤ G) (hB : w.heap.size ≤ B) (ho : x.ownsRow B tRl 6 (.slice ao l.length cap) l.length (cellsV vs)) : GrowR m l ao G B x 0 := fun h0 => by
  rw [mix_zero]
  obtain ⟨R, cap', e, h1, h2⟩ := Grid.of_own (P := IsRl) (FF := fun R g => g = G ∨ g = R) (L := l) ho h0 rfl hl.len (one_rl hl).1 fun i a u hi hu R hR hR2 y hy => by
    have hby : Below w.heap.size w y := hb.trans (hy.below hb.size fun k hk => by rcases hk with rfl | rfl <;> omega)
    exact (hl.is i a u hi hu).below hby
  obtain ⟨rfl, -⟩ : ao = some ⟨R, 0, none⟩ ∧ _ := by simpa using e
  exact ⟨R, rfl, h1, h2⟩
theorem GrowR.put {m : Al} {l : List Rl} {G B R k : Nat} {A : Option Addr} {x : World} {us : List Value} {v : Value} (h : Grid IsRl (fun g => g = G ∨ g = R) 6 tRl R x (mix (wideR m) l k)) (hk : k < l.length) (hl : Lies IsAl 3 x A l[k].allow us)
    (ho : x.ownsRow B tAl 3 v (1 + l[k].allow.length) ((alV m).cells.toList ++ cellsV us)) (hR : R < B) (hG : G < B) : Grid IsRl (fun g => g = G ∨ g = R) 6 tRl R (x.setCell ⟨R, k * 6 + 1, none⟩ v) (mix (wideR m) l (k + 1)) := by
  rw [mix_next hk]
  refine h.put (.inr rfl) (mix_at hk) (by decide) fun u _ hu => ?_
  have ho' : x.ownsRow B tAl 3 v ((m :: l[k].allow).length) (cellsV (alV m :: us)) := by
    rw [List.length_cons, Nat.add_comm]
    exact ho
  obtain ⟨ao, cap, rfl⟩ := own_slice ho'
  obtain ⟨so, sc, no, nc, ss, rfl, -, -⟩ := hu.now
  refine ⟨relV (wideR m l[k]) (.slice ao (m :: l[k].allow).length cap) (.slice no l[k].expr.kids.length nc), rfl, fun j hj => ?_, rfl, fun y hy => ?_⟩
  · match j with
    | 0 => rfl
    | 1 => exact absurd rfl hj
    | j + 2 => rfl
  · obtain ⟨so', sc', no', nc', ss', e, -, h2⟩ := hu y hy
    obtain ⟨rfl, rfl⟩ : no = no' ∧ nc = nc' := by
      have := congrArg (fun v : Value => v.cells[5]?) e
      simpa [relV, Value.cells] using this
    have hoy := Tr.own_turn ho' hy fun g hg => by
      have := (World.ownsRow.lt ho' g hg).1
      omega
    refine ⟨ao, cap, no, nc, alV m :: us, rfl, Lies.of_own hoy (show us.length + 1 = l[k].allow.length + 1 by rw [hl.len]) (fun u hu => ?_) fun i a u hi hu => ?_, h2⟩
    · rcases List.mem_cons.1 hu with rfl | hu
      · rfl
      · exact (one_al hl).1 u hu
    · have hi : (m :: l[k].allow)[i]? = some a := hi
      match i with
      | 0 =>
        obtain rfl : m = a := by simpa using hi
        obtain rfl : alV m = u := by simpa using hu
        rfl
      | i + 1 => exact hl.is i a u (by simpa using hi) (by simpa using hu)
theorem Grow.put {w : World} {ty : ByteArray} {m : Al} {l : List Ty} {ao : Option Addr} {G B C R j cap : Nat} {x : World} {t : Ty} (h : Grid IsTy (fun k => k = G) 2 tTy G x (mix (wideT ty m) l j)) (hT : Tail (IsTy w) 2 tTy G x l j) (hB : B ≤ G) (hR : G < R) (ht : l[j]? = some t) (hs : Lt.same t.name ty = true)
    (hr : GrowR m t.rels ao G C x t.rels.length) (hC : G < C) (hn : t.rels.length ≤ maxLen) : Grow w ty m l (some ⟨G, 0, none⟩) B R (x.setCell ⟨G, j * 2 + 1, none⟩ (.slice ao t.rels.length cap)) (j + 1) := fun _ => by
  obtain ⟨hj, rfl⟩ := List.getElem?_eq_some_iff.1 ht
  refine ⟨G, rfl, hB, hR, ?_, hT.put (by decide) _⟩
  rw [mix_next hj]
  have hw : wideT ty m l[j] = ⟨l[j].name, l[j].rels.map (wideR m)⟩ := by rw [wideT, if_pos hs]
  rw [hw]
  refine h.put rfl (mix_at hj) (by decide) fun u _ hu => ?_
  obtain ⟨so, sc, ss, rfl, -⟩ := hu.now
  refine ⟨tyV ⟨l[j].name, l[j].rels.map (wideR m)⟩ (.slice ao l[j].rels.length cap), rfl, fun i hi => ?_, rfl, fun y hy => ?_⟩
  · match i with
    | 0 => rfl
    | 1 => exact absurd rfl hi
    | i + 2 => rfl
  · by_cases h0 : l[j].rels = []
    · refine ⟨ao, cap, [], by rw [List.length_map], ?_⟩
      simp only [h0, List.map_nil]
      exact ⟨rfl, Nat.zero_le _, fun h => absurd rfl h, fun i a u h => by simp at h⟩
    · obtain ⟨R', rfl, h2, h3⟩ := hr h0
      rw [mix_all] at h3
      have h4 := h3.turn (K := fun k => k = G) hy (by omega) fun k hk => .inl hk
      obtain ⟨us, hu⟩ := h4.lies (by rw [List.length_map]; exact hn)
      exact ⟨_, cap, us, by rw [List.length_map], hu⟩
theorem turns_low {F : Nat → Prop} {B : Nat} {w x : World} (h : Below B w x) (hF : ∀ k, B ≤ k → F k) : Turns F w x :=
  ⟨h.os, h.tape, h.output, h.size, fun k _ hn => h.block k (by
    rcases Nat.lt_or_ge k B with h1 | h1
    · exact h1
    · exact absurd (hF k h1) hn)⟩
end Lo
end Go.Proofs.YtopncohhagebbaaGreatDoor
