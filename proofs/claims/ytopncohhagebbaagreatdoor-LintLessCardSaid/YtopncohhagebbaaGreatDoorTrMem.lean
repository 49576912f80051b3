/-
  Layer 5 (tract): expressions that lie in memory.
-/
import Derived.Test.YtopncohhagebbaaGreatDoorMgMem
namespace Go.Proofs.YtopncohhagebbaaGreatDoor
open Go.RowKit
namespace Tr
open Knot (Turns)

abbrev iThis : Value := .iface 215 (.agg #[])
abbrev iComp (a : ByteArray) : Value := .iface 204 (.agg #[.string a])
abbrev iArrow (a b : ByteArray) : Value := .iface 206 (.agg #[.string a, .string b])
abbrev iUnion (s : Value) : Value := .iface 210 (.agg #[s])
abbrev iMeet (s : Value) : Value := .iface 211 (.agg #[s])
abbrev iExcept (x y : Value) : Value := .iface 213 (.agg #[x, y])
mutual
def IsExpr (B : Nat) (w : World) : Nd → Value → Prop
  | .mk k a b l, v =>
    (k = 1 ∧ v = iThis) ∨ (k = 2 ∧ v = iComp a) ∨ (k = 3 ∧ v = iArrow a b) ∨
    (k = 4 ∧ ∃ g o cap vs, v = iUnion (.slice (some ⟨g, o, none⟩) l.length cap) ∧ B ≤ g ∧ (∀ i u, vs[i]? = some u → w.cell? ⟨g, o + i, none⟩ = some u) ∧ IsExprs B w l vs) ∨
    (k = 5 ∧ ∃ g o cap vs, v = iMeet (.slice (some ⟨g, o, none⟩) l.length cap) ∧ B ≤ g ∧ (∀ i u, vs[i]? = some u → w.cell? ⟨g, o + i, none⟩ = some u) ∧ IsExprs B w l vs) ∨
    (k = 6 ∧ ∃ x y, v = iExcept x y ∧ IsExprs B w l [x, y])
def IsExprs (B : Nat) (w : World) : List Nd → List Value → Prop
  | [], vs => vs = []
  | n :: r, vs => ∃ v vr, vs = v :: vr ∧ IsExpr B w n v ∧ IsExprs B w r vr
end
theorem IsExprs.len {B : Nat} {w : World} : ∀ {l : List Nd} {vs : List Value}, IsExprs B w l vs → vs.length = l.length
  | [], vs, h => by rw [IsExprs] at h; rw [h]; rfl
  | n :: r, vs, h => by
    rw [IsExprs] at h
    obtain ⟨v, vr, rfl, -, hr⟩ := h
    rw [List.length_cons, List.length_cons, IsExprs.len hr]
theorem IsExprs.at {B : Nat} {w : World} : ∀ {l : List Nd} {vs : List Value}, IsExprs B w l vs → ∀ {i : Nat} (h : i < l.length), ∃ v, vs[i]? = some v ∧ IsExpr B w l[i] v
  | n :: r, vs, h, i, hi => by
    rw [IsExprs] at h
    obtain ⟨v, vr, rfl, hn, hr⟩ := h
    match i, hi with
    | 0, _ => exact ⟨v, rfl, hn⟩
    | i + 1, hi =>
      obtain ⟨u, hu, hn'⟩ := IsExprs.at hr (i := i) (by simpa using hi)
      exact ⟨u, by simpa using hu, by simpa using hn'⟩
theorem IsExprs.of {B : Nat} {w : World} : ∀ {l : List Nd} {vs : List Value}, vs.length = l.length → (∀ (i : Nat) (h : i < l.length) (v : Value), vs[i]? = some v → IsExpr B w l[i] v) → IsExprs B w l vs
  | [], vs, hl, _ => by rw [IsExprs]; exact List.eq_nil_of_length_eq_zero hl
  | n :: r, [], hl, _ => by simp at hl
  | n :: r, v :: vr, hl, h => by
    rw [IsExprs]
    refine ⟨v, vr, rfl, h 0 (by simp) v rfl, IsExprs.of (by simpa using hl) fun i hi u hu => ?_⟩
    have := h (i + 1) (by simpa using hi) u (by simpa using hu)
    simpa using this
theorem IsExpr.on {B B' : Nat} {w x : World} (hB : B' ≤ B) (hr : ∀ p u, B ≤ p.block → w.cell? p = some u → x.cell? p = some u) : ∀ (k : Nat) (n : Nd) (v : Value), size n ≤ k → IsExpr B w n v → IsExpr B' x n v
  | 0, n, _, h, _ => by have := size_pos n; omega
  | k + 1, .mk q a b l, v, h, hn => by
    have hl : ∀ vs, IsExprs B w l vs → IsExprs B' x l vs := fun vs hk => IsExprs.of hk.len fun i hi u hu => by
      obtain ⟨u', hu', hn'⟩ := hk.at hi
      rw [hu] at hu'
      cases hu'
      refine IsExpr.on hB hr k _ _ ?_ hn'
      have := sizes_mem (List.getElem_mem hi)
      rw [size] at h
      omega
    rw [IsExpr] at hn ⊢
    rcases hn with h | h | h | ⟨e, g, o, cap, vs, e2, hg, hc, hk⟩ | ⟨e, g, o, cap, vs, e2, hg, hc, hk⟩ | ⟨e, x, y, e2, hk⟩
    · exact .inl h
    · exact .inr (.inl h)
    · exact .inr (.inr (.inl h))
    · exact .inr (.inr (.inr (.inl ⟨e, g, o, cap, vs, e2, Nat.le_trans hB hg, fun i u hu => hr _ _ hg (hc i u hu), hl _ hk⟩)))
    · exact .inr (.inr (.inr (.inr (.inl ⟨e, g, o, cap, vs, e2, Nat.le_trans hB hg, fun i u hu => hr _ _ hg (hc i u hu), hl _ hk⟩))))
    · exact .inr (.inr (.inr (.inr (.inr ⟨e, x, y, e2, hl _ hk⟩))))
theorem IsExpr.below {B : Nat} {w x : World} {n : Nd} {v : Value} (h : IsExpr B w n v) (hb : Below w.heap.size w x) : IsExpr B x n v :=
  IsExpr.on (Nat.le_refl _) (fun _ _ _ h => (hb.cell (World.block_lt_of_cell? w _ h)).trans h) (size n) n v (Nat.le_refl _) h
theorem IsExpr.mono {B B' : Nat} {w : World} {n : Nd} {v : Value} (h : IsExpr B w n v) (hB : B' ≤ B) : IsExpr B' w n v := IsExpr.on hB (fun _ _ _ h => h) (size n) n v (Nat.le_refl _) h
theorem IsExpr.put {B : Nat} {w : World} {n : Nd} {v : Value} (h : IsExpr B w n v) {p : Addr} (hp : p.block < B) (u : Value) : IsExpr B (w.setCell p u) n v :=
  IsExpr.on (Nat.le_refl _) (fun q _ hq h => (World.cell?_of_block (w := w) (Below.heap_setCell w p u q.block (by omega))).trans h) (size n) n v (Nat.le_refl _) h
theorem IsExprs.each {B B' : Nat} {w x : World} {l : List Nd} {vs : List Value} (h : IsExprs B w l vs) (hx : ∀ n v, IsExpr B w n v → IsExpr B' x n v) : IsExprs B' x l vs :=
  IsExprs.of h.len fun i hi u hu => by
    obtain ⟨u', hu', hn'⟩ := h.at hi
    rw [hu] at hu'
    cases hu'
    exact hx _ _ hn'
theorem IsExprs.below {B : Nat} {w x : World} {l : List Nd} {vs : List Value} (h : IsExprs B w l vs) (hb : Below w.heap.size w x) : IsExprs B x l vs := h.each fun _ _ h => h.below hb
theorem elemX : Tryz.prog.underlying 207 = some (.slice (Tryz.prog.elem 207)) := by kernel_rfl
theorem sizeX : ∀ w, (sizeOf (Tryz.prog.elem 207)).run Tryz.prog w = .ok 1 w := fun w => by kernel_rfl
theorem part_at {B : Nat} {w : World} {l : List Nd} {g o cap : Nat} {vs : List Value} (hr : ∀ i u, vs[i]? = some u → w.cell? ⟨g, o + i, none⟩ = some u) (hk : IsExprs B w l vs) {i : Nat} (hi : i < l.length) :
    ∃ v, (∀ W, (Instr.indexAt 207 (.slice (some ⟨g, o, none⟩) l.length cap) (.int .i64 (i : Int))).run Tryz.prog W = .ok (.pointer (some ⟨g, o + i, none⟩)) W) ∧ g < w.heap.size ∧
      w.cell? ⟨g, o + i, none⟩ = some v ∧ IsExpr B w l[i] v := by
  obtain ⟨v, hv, hn⟩ := hk.at hi
  have c0 := hr i v hv
  refine ⟨v, fun W => ?_, World.block_lt_of_cell? w _ c0, c0, hn⟩
  rw [run_indexAt_slice W _ _ _ _ _ _ elemX, if_pos ⟨by omega, by omega⟩, sizeX]
  have e : ((i : Int)).toNat = i := by omega
  simp only [Result.andThen_ok, e, Addr.add_lit, Nat.mul_one]
theorem IsExpr.iface {B : Nat} {w : World} {n : Nd} {v : Value} (h : IsExpr B w n v) : ∃ t u, v = .iface t u := by
  cases n
  rw [IsExpr] at h
  rcases h with ⟨-, rfl⟩ | ⟨-, rfl⟩ | ⟨-, rfl⟩ | ⟨-, _, _, _, _, rfl, -⟩ | ⟨-, _, _, _, _, rfl, -⟩ | ⟨-, _, _, rfl, -⟩ <;> exact ⟨_, _, rfl⟩
end Tr
end Go.Proofs.YtopncohhagebbaaGreatDoor
