/-
  Layer 14's statements: lists of records that go through appends, each of which keeps what is told of it.
-/
import Derived.Test.YtkfmmdiflbnhgaaHoActs
import Derived.Test.YtkfmmdiflbnhgaaSgpK
import Derived.Test.YtkfmmdiflbnhgaaInA
namespace Go.Proofs.Ytkfmmdiflbnhgaa
set_option maxRecDepth 100000
open Go.RowKit
open Knot (Turns NewRow)
open Ta (IsBytes Stay sec nul ptr IsT Tray)
open Tr (own_turn own_below own_slice IsElem append_rows addp)
open Sp (Recs IsRecs recElem tBss tBs)
namespace Ho
section
variable {x0 x y : World} {B : Nat} {G : Nat → Prop} {v v2 : Value} {L M : List (List UInt8)} {P : Value → List UInt8 → Prop}
/-- A list of records in memory, of each of which P holds. -/
def RecsP (P : Value → List UInt8 → Prop) (x : World) (v : Value) (M : List (List UInt8)) : Prop :=
  ∃ ao cap, v = .slice ao M.length cap ∧ (M ≠ [] → ∃ g o, ao = some ⟨g, o, none⟩ ∧ ∀ (i : Nat) (h : i < M.length), ∃ u, x.cell? ⟨g, o + i, none⟩ = some u ∧ P u M[i])
theorem RecsP.below (h : RecsP P x v M) (hb : Below x.heap.size x y) : RecsP P y v M := by
  obtain ⟨ao, cap, hv, h3⟩ := h
  refine ⟨ao, cap, hv, fun hn => ?_⟩
  obtain ⟨g, o, e, hc⟩ := h3 hn
  refine ⟨g, o, e, fun i hi => ?_⟩
  obtain ⟨u, hu, hp⟩ := hc i hi
  exact ⟨u, (hb.cell (World.block_lt_of_cell? x _ hu)).trans hu, hp⟩
theorem recs_p (h : Recs B G x v L) : RecsP (fun u b => Stay (fun k => G k ∨ v.ownBlock = some k) x (fun y => IsBytes y u b)) x v L := by
  obtain ⟨vs, h1, h2⟩ := h
  rcases h1.2 with ⟨rfl, h0⟩ | ⟨g, cap, cur, rfl, hb, hg, hn, hc, hs, ht⟩
  · obtain rfl : L = [] := List.eq_nil_of_length_eq_zero h0
    exact ⟨none, 0, rfl, fun h => absurd rfl h⟩
  · refine ⟨_, cap, rfl, fun _ => ⟨g, 0, rfl, fun i hi => ?_⟩⟩
    obtain ⟨u, hu, hst⟩ := h2 i hi
    have hr : x.ownsRow B tBs 1 (.slice (some ⟨g, 0, none⟩) L.length cap) L.length vs := h1
    have h3 := hr.cellAt i (by omega)
    refine ⟨u, ?_, hst⟩
    rw [Nat.zero_add, h3]
    exact hu
theorem RecsP.one {g : Nat} {u : Value} {b : List UInt8} (hc : x.cell? ⟨g, 0, none⟩ = some u) (hu : P u b) : RecsP P x (.slice (some ⟨g, 0, none⟩) 1 1) [b] := by
  refine ⟨_, 1, rfl, fun _ => ⟨g, 0, rfl, fun i hi => ?_⟩⟩
  obtain rfl : i = 0 := by simp at hi; exact hi
  exact ⟨u, hc, hu⟩
theorem RecsP.vals (hP : ∀ u b, P u b → u.oneCell' = true) (h : RecsP P x v M) : ∃ us : List Value, us.length = M.length ∧ (∀ (i : Nat) (h : i < M.length), ∃ u, us[i]? = some u ∧ P u M[i]) ∧ (∀ u ∈ us, u.oneCell' = true) ∧ (M ≠ [] → ∃ g o c, v = .slice (some ⟨g, o, none⟩) M.length c ∧ ∀ j u, us[j]? = some u → x.cell? ⟨g, o + j, none⟩ = some u) := by
  obtain ⟨ao, cap, rfl, h3⟩ := h
  by_cases hm : M = []
  · subst hm
    exact ⟨[], rfl, fun i h => by simp at h, fun u h => by simp at h, fun h => absurd rfl h⟩
  · obtain ⟨g, o, rfl, hc⟩ := h3 hm
    refine ⟨List.ofFn fun i : Fin M.length => Classical.choose (hc i.1 i.2), by simp, fun i hi => ⟨_, by rw [List.getElem?_eq_getElem (by simpa using hi)]; simp, (Classical.choose_spec (hc i hi)).2⟩, fun u hu => ?_, fun _ => ⟨g, o, cap, rfl, fun j u hj => ?_⟩⟩
    · obtain ⟨i, rfl⟩ := List.mem_ofFn.1 hu
      exact hP _ _ (Classical.choose_spec (hc i.1 i.2)).2
    · have hj' : j < M.length := by have := (List.getElem?_eq_some_iff.1 hj).1; simpa using this
      rw [List.getElem?_eq_getElem (by simpa using hj')] at hj
      simp at hj
      rw [← hj]
      exact (Classical.choose_spec (hc j hj')).1
/-- A list in a row of its own, made since x0, of whose records P holds. -/
def MoreP (P : Value → List UInt8 → Prop) (x0 x : World) (v : Value) (L : List (List UInt8)) : Prop :=
  Below x0.heap.size x0 x ∧ ∃ vs, x.ownsRow x0.heap.size tBs 1 v L.length vs ∧ ∀ (i : Nat) (h : i < L.length), ∃ u, vs[i]? = some u ∧ P u L[i]
theorem MoreP.on (h : MoreP P x0 x v L) (hb : Below x.heap.size x y) : MoreP P x0 y v L := by
  obtain ⟨h0, vs, h1, h2⟩ := h
  exact ⟨h0.trans (hb.mono h0.size), vs, own_below h1 hb, h2⟩
theorem MoreP.recs (h : MoreP (fun u b => Stay (fun k => G k ∨ v2.ownBlock = some k) x0 (fun y => IsBytes y u b)) x0 x v L) (hB : B ≤ x0.heap.size) : Recs B G x v L := by
  obtain ⟨hb, vs, h1, h2⟩ := h
  refine ⟨vs, Ta.own_base h1 hB, fun i hi => ?_⟩
  obtain ⟨u, hu, hs⟩ := h2 i hi
  exact ⟨u, hu, hs.grow (Turns.of_below hb) fun k hk h => h.elim .inl fun e => by have := (h1.lt k e).1; omega⟩
theorem moreP_append (hP : ∀ u b, P u b → u.oneCell' = true) (h : MoreP P x0 x v L) (h2 : RecsP P x v2 M) (ty : TypeId) (hz : L.length + M.length ≤ 1000000) :
    ∃ v' y, (Builtin.append_ #[tBss, tBss] ty #[v, v2]).run Try.prog x = .ok v' y ∧ MoreP P x0 y v' (L ++ M) ∧ Turns (fun k => v.ownBlock = some k) x y := by
  obtain ⟨hb, vs, h1, h3⟩ := h
  obtain ⟨i, z, bb, T, hbb⟩ := recElem
  obtain ⟨us, u1, u2, u3, u4⟩ := h2.vals hP
  have hvl : vs.length = L.length := by have := h1.1; omega
  by_cases hm : M = []
  · subst hm
    rw [List.append_nil]
    obtain ⟨ao, cap, rfl, -⟩ := h2
    cases ao with
    | none => exact ⟨v, x, Ta.append_nil T ty h1 (by omega), ⟨hb, vs, h1, h3⟩, Turns.refl _ _⟩
    | some a =>
      obtain ⟨v', y, hr, o5, g5, -⟩ := append_rows T ty h1 hb.size (m := 0) (news := []) (ad := a) (c := cap) rfl (fun j u hj => by simp at hj) (fun u hu => by simp at hu) (by omega) (Nat.le_trans (Nat.mul_le_mul_left _ hbb) (by omega))
      rw [List.append_nil] at o5
      exact ⟨v', y, hr, ⟨hb.grown g5 hb.size fun k hk => (h1.lt k hk).1, vs, o5, h3⟩, Turns.of_grown g5 fun k hk => hk⟩
  · obtain ⟨g, o, c, rfl, hc⟩ := u4 hm
    obtain ⟨v', y, hr, o5, g5, -⟩ := append_rows T ty h1 hb.size (m := M.length) (news := us) (ad := ⟨g, o, none⟩) (c := c) (by omega) (fun j u hj => by
      rw [addp]
      exact hc j u hj) u3 (by omega) (Nat.le_trans (Nat.mul_le_mul_left _ hbb) (by omega))
    refine ⟨v', y, hr, ⟨hb.grown g5 hb.size fun k hk => (h1.lt k hk).1, vs ++ us, by rw [List.length_append]; exact o5, fun i hi => ?_⟩, Turns.of_grown g5 fun k hk => hk⟩
    rw [List.length_append] at hi
    by_cases hlt : i < L.length
    · obtain ⟨u, hu, hs⟩ := h3 i hlt
      exact ⟨u, by rw [List.getElem?_append_left (by omega)]; exact hu, by rw [List.getElem_append_left hlt]; exact hs⟩
    · obtain ⟨u, hu, hs⟩ := u2 (i - L.length) (by omega)
      exact ⟨u, by rw [List.getElem?_append_right (by omega), hvl]; exact hu, by rw [List.getElem_append_right (by omega)]; exact hs⟩
theorem op_more {o : Oper} {a : Go.Act} {K : Go.Act → World → Prop} {Q : Exit → Go.Act → World → Prop} (s q : Operand) (ho : o.op = .call { callee := .builtin .append, args := #[s, q], argTypes := #[tBss, tBss] })
    (hs : a.eval s = v) (hq : a.eval q = v2) (hP : ∀ u b, P u b → u.oneCell' = true) (h : MoreP P x0 x v L) (h2 : RecsP P x v2 M) (hz : L.length + M.length ≤ 1000000)
    (hK : ∀ v' y, MoreP P x0 y v' (L ++ M) → Turns (fun k => v.ownBlock = some k) x y → K (a.put o.dst v') y) : o.wp Try.prog a x K Q := by
  obtain ⟨r', y, hr, h3, h4⟩ := moreP_append hP h h2 o.type hz
  unfold Oper.wp execOp
  simp only [ho, resolve, invoke, builtin, Sem.run_bind, Sem.run_pure, Result.andThen_ok, List.map_toArray, List.map_cons, List.map_nil, hs, hq, hr]
  exact hK r' y h3 h4
theorem MoreP.row (h : MoreP P x0 x v L) {k : Nat} (hk : v.ownBlock = some k) : x0.heap.size ≤ k := by
  obtain ⟨-, vs, h1, -⟩ := h
  exact (h1.lt k hk).1
theorem moreP_empty (h : Below x0.heap.size x0 x) : MoreP P x0 (x.alloc (.cells #[] tBs)) (.slice (some ⟨x.heap.size, 0, none⟩) 0 0) [] :=
  ⟨h.alloc h.size _, [], Ta.own_base (World.ownsRow_made x #[] 0 (Nat.le_refl _) (by unfold maxLen; omega) rfl) h.size, fun i h => by simp at h⟩
theorem one_recs (W : World) (a : Option Addr) (n c : Nat) : (Instr.buildSlice tBss 1 #[(0, .slice a n c)]).run Try.prog W = .ok (.slice (some ⟨W.heap.size, 0, none⟩) 1 1) (W.alloc (.cells #[.slice a n c] tBs)) := by
  kernel_rfl
end
end Ho
end Go.Proofs.Ytkfmmdiflbnhgaa
