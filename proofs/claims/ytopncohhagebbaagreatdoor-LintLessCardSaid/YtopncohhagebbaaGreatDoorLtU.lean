/-
  Layer 9: LintLess's configuration as it grows in memory.
-/
import Derived.Test.YtopncohhagebbaaGreatDoorLtT
import Derived.Test.YtopncohhagebbaaGreatDoorLgS
import Derived.Test.YtopncohhagebbaaGreatDoorLgC
namespace Go.Proofs.YtopncohhagebbaaGreatDoor
open Go.RowKit
namespace Lt
open Tr (Nd IsNode node4 none0 size RowAt IsElem own_slice own_below own_turn)
open Gr (Al Rl Ty IsAl IsRl IsTy IsCf Lies alV relV tyV tAl tRl tTy tCf cellsV)
open Knot (Turns NewRow)

def El (B : Nat) (x : World) (a : Rl) (u : Value) : Prop :=
  (∃ A s, a = lessR s ∧ u = relV a (.slice (some ⟨A, 0, none⟩) 1 1) (.slice none 0 0) ∧ B ≤ A ∧ x.heap[A]? = some (.cells #[.string userN, .string none0, .bool false] tAl (0, 0))) ∨ (a = zzR ∧ u = relV zzR (.slice none 0 0) (.slice none 0 0))
section
variable {B : Nat} {x y : World} {a : Rl} {u : Value}
theorem El.turn {F : Nat → Prop} (h : El B x a u) (ht : Turns F x y) (hF : ∀ A cur f, B ≤ A → x.heap[A]? = some (.cells cur tAl f) → ¬ F A) : El B y a u := by
  rcases h with ⟨A, s, h1, h2, h3, h4⟩ | h
  · exact .inl ⟨A, s, h1, h2, h3, ht.heap h4 (hF A _ _ h3 h4)⟩
  · exact .inr h
theorem El.below (h : El B x a u) (hb : Below x.heap.size x y) : El B y a u := by
  rcases h with ⟨A, s, h1, h2, h3, h4⟩ | h
  · exact .inl ⟨A, s, h1, h2, h3, (hb.block _ (Array.getElem?_eq_some_iff.1 h4).1).trans h4⟩
  · exact .inr h
theorem El.six (h : El B x a u) : u.cells.size = 6 := by
  rcases h with ⟨A, s, -, rfl, -⟩ | ⟨-, rfl⟩ <;> rfl
theorem leaf_node (k : Int) (s : ByteArray) (hk : s.size ≤ maxLen) : IsNode x (.mk k s none0 []) (node4 k s none0 (.slice none 0 0)) := by
  rw [IsNode]
  refine ⟨none, 0, [], rfl, ?_, fun h => absurd rfl h, ?_⟩
  · exact ⟨hk, by decide⟩
  rw [Tr.IsNodes]
theorem El.is (h : El B x a u) : IsRl x a u := by
  rcases h with ⟨A, s, rfl, rfl, -, hA⟩ | ⟨rfl, rfl⟩
  · refine ⟨some ⟨A, 0, none⟩, 1, none, 0, [alV ⟨userN, none0, false⟩], rfl, ⟨rfl, show 1 ≤ maxLen by decide, fun _ => ⟨A, 0, rfl, fun i u hu => ?_⟩, fun i a u ha hu => ?_⟩, leaf_node 1 none0 (by decide)⟩
    · match i, hu with
      | 0, hu =>
        obtain rfl : alV ⟨userN, none0, false⟩ = u := by simpa using hu
        refine ⟨rfl, fun j z hz => ?_⟩
        rw [Lib.cell_of_heap hA]
        simpa [Value.cells] using hz
      | i + 1, hu => simp at hu
    · match i, ha, hu with
      | 0, ha, hu =>
        obtain rfl : (⟨userN, none0, false⟩ : Al) = a := by simpa [lessR] using ha
        obtain rfl : alV ⟨userN, none0, false⟩ = u := by simpa using hu
        rfl
      | i + 1, ha, hu => simp [lessR] at ha
  · exact ⟨none, 0, none, 0, [], rfl, ⟨rfl, show 0 ≤ maxLen by decide, fun h => absurd rfl h, fun i a u ha hu => by simp at hu⟩, leaf_node 2 zzzN (by decide)⟩
end
structure Grow (T : Nat) (x : World) (L : List Rl) (rv : Value) : Prop where
  box : x.heap[T + 1]? = some (.cells #[.slice (some ⟨T, 0, none⟩) 2 2] tCf (0, 0))
  tys : x.heap[T]? = some (.cells #[.string userN, .slice none 0 0, .string tN, rv] tTy (0, 0))
  row : ∃ vs, x.ownsRow (T + 2) tRl 6 rv L.length (cellsV vs) ∧ vs.length = L.length ∧ ∀ (i : Nat) (a : Rl) (u : Value), L[i]? = some a → vs[i]? = some u → El (T + 2) x a u
section
variable {T : Nat} {x y z : World} {L : List Rl} {rv : Value}
theorem Grow.below (h : Grow T x L rv) (hb : Below x.heap.size x y) : Grow T y L rv := by
  obtain ⟨vs, h1, h2, h3⟩ := h.row
  exact ⟨(hb.block _ (Array.getElem?_eq_some_iff.1 h.box).1).trans h.box, (hb.block _ (Array.getElem?_eq_some_iff.1 h.tys).1).trans h.tys, vs, own_below h1 hb, h2, fun i a u hi hu => (h3 i a u hi hu).below hb⟩
theorem Grow.cut (h : Grow T x L rv) (m : Nat) (hm : m ≤ L.length) : ∃ ao cap, rv = .slice ao L.length cap ∧ ∃ vs, x.ownsRow (T + 2) tRl 6 (.slice ao m cap) m (cellsV vs) ∧ vs.length = m ∧ ∀ (i : Nat) (a : Rl) (u : Value), (L.take m)[i]? = some a → vs[i]? = some u → El (T + 2) x a u := by
  obtain ⟨vs, h1, h2, h3⟩ := h.row
  have hsz : ∀ v ∈ vs, v.cells.size = 6 := fun v hv => by
    obtain ⟨i, hi, rfl⟩ := List.getElem_of_mem hv
    exact (h3 i _ _ (List.getElem?_eq_getElem (by omega)) (List.getElem?_eq_getElem hi)).six
  have htk : (cellsV vs).take (m * 6) = cellsV (vs.take m) := by
    rw [show vs = vs.take m ++ vs.drop m from (List.take_append_drop m vs).symm, Gr.cellsV_append, List.take_append_drop]
    refine List.take_left' ?_
    rw [cellsV_size fun v hv => hsz v (List.mem_of_mem_take hv), List.length_take]
    omega
  have hl1 := h1.1
  rcases h1.2 with ⟨rfl, h0⟩ | ⟨g, cap, cur, rfl, hb, hg, q1, q2, q3, q4⟩
  · have : m = 0 := by omega
    subst this
    refine ⟨none, 0, by rw [h0], [], World.ownsRow_nil _ _ _ _, rfl, fun i a u _ hu => by simp at hu⟩
  · refine ⟨some ⟨g, 0, none⟩, cap, rfl, vs.take m, ⟨?_, .inr ⟨g, cap, cur, rfl, hb, hg, by omega, q2, q3, ?_⟩⟩, by rw [List.length_take]; omega, fun i a u hi hu => ?_⟩
    · rw [cellsV_size fun v hv => hsz v (List.mem_of_mem_take hv), List.length_take]
      congr 1
      omega
    · rw [← htk, ← q4, List.take_take]
      congr 1
      omega
    · rw [List.getElem?_take] at hi hu
      split at hi
      · rename_i hlt
        rw [if_pos hlt] at hu
        exact h3 i a u hi hu
      · cases hi
theorem Grow.put (h : Grow T x L rv) (hb : Below x.heap.size x y) {m : Nat} {ao : Option Addr} {cap : Nat} {vs : List Value} (hm : m ≤ L.length)
    (hrow : x.ownsRow (T + 2) tRl 6 (.slice ao m cap) m (cellsV vs)) (hvl : vs.length = m) (hel : ∀ (i : Nat) (a : Rl) (u : Value), (L.take m)[i]? = some a → vs[i]? = some u → El (T + 2) x a u)
    {X : Rl} {ux v2 : Value} (hX : El (T + 2) y X ux) (ho : z.ownsRow (T + 2) tRl 6 v2 (m + 1) (cellsV vs ++ ux.cells.toList)) (hg : y.grownBy z (Value.slice ao m cap).ownBlock) :
    Grow T (z.setCell ⟨T, 3, none⟩ v2) (L.take m ++ [X]) v2 ∧ Turns (fun k => (Value.slice ao m cap).ownBlock = some k ∨ k = T) x (z.setCell ⟨T, 3, none⟩ v2) := by
  have hrow' := own_below hrow hb
  have hlow : ∀ k, (Value.slice ao m cap).ownBlock = some k → T + 2 ≤ k := fun k hk => (World.ownsRow.lt hrow k hk).1
  have ht0 : Turns (fun k => (Value.slice ao m cap).ownBlock = some k) y z := Turns.of_grown hg fun k hk => hk
  have ht1 : Turns (fun k => (Value.slice ao m cap).ownBlock = some k) x z := (Turns.of_below (F := fun k => (Value.slice ao m cap).ownBlock = some k) hb).trans ht0 fun k _ hk => hk
  have ht2 : Turns (fun k => (Value.slice ao m cap).ownBlock = some k ∨ k = T) x (z.setCell ⟨T, 3, none⟩ v2) := Turns.setCell (F := fun k => (Value.slice ao m cap).ownBlock = some k ∨ k = T) (ht1.mono fun k _ hk => Or.inl hk) (p := ⟨T, 3, none⟩) (.inr rfl) _
  have ht3 : Turns (fun k => (Value.slice ao m cap).ownBlock = some k ∨ k = T) y (z.setCell ⟨T, 3, none⟩ v2) := Turns.setCell (F := fun k => (Value.slice ao m cap).ownBlock = some k ∨ k = T) (ht0.mono fun k _ hk => Or.inl hk) (p := ⟨T, 3, none⟩) (.inr rfl) _
  have htys := ht1.heap h.tys (fun e => by have := hlow _ e; omega)
  have hst : (tAl : TypeId) ≠ tRl := by decide
  refine ⟨⟨ht2.heap h.box (fun e => by rcases e with e | e; (have := hlow _ e; omega); omega), Lib.heap_setCell_same (i := 3) htys _, vs ++ [ux], ?_, ?_, fun i a u hi hu => ?_⟩, ht2⟩
  · have hl : (L.take m ++ [X]).length = m + 1 := by rw [List.length_append, List.length_take, List.length_singleton]; omega
    rw [hl, Gr.cellsV_append, Gr.cellsV_one]
    exact own_turn ho ((Turns.refl (fun k => k = T) z).setCell (p := ⟨T, 3, none⟩) rfl _) fun k hk e => by have := (World.ownsRow.lt ho k hk).1; omega
  · rw [List.length_append, List.length_append, List.length_take, hvl, List.length_singleton, List.length_singleton]; omega
  · have hlt : (L.take m).length = m := by rw [List.length_take]; omega
    by_cases hi2 : i < m
    · rw [List.getElem?_append_left (by omega)] at hi
      rw [List.getElem?_append_left (by omega)] at hu
      exact (hel i a u hi hu).turn ht2 fun A cur f hA hc e => by
        rcases e with e | e
        · exact Ly.own_other hrow hc hst e
        · omega
    · rw [List.getElem?_append_right (by omega)] at hi
      rw [List.getElem?_append_right (by omega), hvl] at hu
      rw [hlt] at hi
      have h0 : i - m = 0 := by
        have := (List.getElem?_eq_some_iff.1 hi).1
        simp at this
        omega
      rw [h0] at hi hu
      obtain rfl : X = a := by simpa using hi
      obtain rfl : ux = u := by simpa using hu
      exact hX.turn ht3 fun A cur f hA hc e => by
        rcases e with e | e
        · exact Ly.own_other hrow' hc hst e
        · omega
theorem Grow.cf (h : Grow T x L rv) : IsCf x [⟨userN, []⟩, ⟨tN, L⟩] (.agg #[.slice (some ⟨T, 0, none⟩) 2 2]) := by
  obtain ⟨vs, h1, h2, h3⟩ := h.row
  obtain ⟨ao, cap, rfl⟩ := own_slice h1
  have hls : Lies IsRl 6 x ao L vs := Lies.of_own h1 h2 (fun v hv => by
    obtain ⟨i, hi, rfl⟩ := List.getElem_of_mem hv
    exact (h3 i _ _ (List.getElem?_eq_getElem (by omega)) (List.getElem?_eq_getElem hi)).six) fun i a u hi hu => (h3 i a u hi hu).is
  refine ⟨some ⟨T, 0, none⟩, 2, [.agg #[.string userN, .slice none 0 0], .agg #[.string tN, .slice ao L.length cap]], rfl, ⟨rfl, show 2 ≤ maxLen by decide, fun _ => ⟨T, 0, rfl, fun i u hu => ?_⟩, fun i a u ha hu => ?_⟩⟩
  · match i, hu with
    | 0, hu =>
      obtain rfl : Value.agg #[.string userN, .slice none 0 0] = u := by simpa using hu
      refine ⟨rfl, fun j z hz => ?_⟩
      rw [Lib.cell_of_heap h.tys]
      match j, hz with
      | 0, hz => simpa [Value.cells] using hz
      | 1, hz => simpa [Value.cells] using hz
      | j + 2, hz => simp [Value.cells] at hz
    | 1, hu =>
      obtain rfl : Value.agg #[.string tN, .slice ao L.length cap] = u := by simpa using hu
      refine ⟨rfl, fun j z hz => ?_⟩
      rw [Lib.cell_of_heap h.tys]
      match j, hz with
      | 0, hz => simpa [Value.cells] using hz
      | 1, hz => simpa [Value.cells] using hz
      | j + 2, hz => simp [Value.cells] at hz
    | i + 2, hu => simp at hu
  · match i, ha, hu with
    | 0, ha, hu =>
      obtain rfl : (⟨userN, []⟩ : Ty) = a := by simpa using ha
      obtain rfl : Value.agg #[.string userN, .slice none 0 0] = u := by simpa using hu
      exact ⟨none, 0, [], rfl, rfl, show 0 ≤ maxLen by decide, fun h => absurd rfl h, fun i a u ha hu => by simp at hu⟩
    | 1, ha, hu =>
      obtain rfl : (⟨tN, L⟩ : Ty) = a := by simpa using ha
      obtain rfl : Value.agg #[.string tN, .slice ao L.length cap] = u := by simpa using hu
      exact ⟨ao, cap, vs, rfl, hls⟩
    | i + 2, ha, hu => simp at ha
end
end Lt
end Go.Proofs.YtopncohhagebbaaGreatDoor
