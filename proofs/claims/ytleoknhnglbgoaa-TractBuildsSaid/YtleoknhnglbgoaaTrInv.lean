/-
  Layer 5 (tract): a call of Node through the interface, as an operation; nodes that a call made.
-/
import Derived.Test.YtleoknhnglbgoaaTrMeth
import Derived.Test.YtleoknhnglbgoaaTrThr
namespace Go.Proofs.Ytleoknhnglbgoaa
open Go.RowKit
namespace Tr
open Knot (Turns)

section
variable {P : Program} {w : World} {ops : Array Oper} {rest : List Oper} {o : Oper} {a : Act} {Q : Exit → Act → World → Prop}
theorem wp_invoke {K : Act → World → Prop} (x : Operand) (ho : o.op = .call { callee := .invoke x "Node", args := #[], argTypes := #[] }) {u : Value} {f : FuncId} {args : Array Value}
    (hx : a.eval x = u) (hm : ∀ W, (callMethod u "Node" #[]).run P W = .ok (.enter f args) W) (h : Calls P f args w fun e y => ∃ v, e = .returned v ∧ K (a.put o.dst v) y) : o.wp P a w K Q := by
  have hr : (execOp a.eval o).run P w = .ok (.enter f args) w := by
    unfold execOp
    simp only [ho, resolve, invoke, Sem.run_bind, Sem.run_pure, Result.andThen_ok, List.map_toArray, List.map_nil, hx]
    exact hm w
  unfold Oper.wp
  rw [hr, Oper.upon_enter]
  refine h.mono fun e y hy => ?_
  obtain ⟨v, rfl, hk⟩ := hy
  exact hk
theorem walk_invoke (hgd : o.guard = none) (x : Operand) (ho : o.op = .call { callee := .invoke x "Node", args := #[], argTypes := #[] }) {u : Value} {f : FuncId} {args : Array Value}
    (hx : a.eval x = u) (hm : ∀ W, (callMethod u "Node" #[]).run P W = .ok (.enter f args) W) (h : Calls P f args w fun e y => ∃ v, e = .returned v ∧ wpList P ops Q rest (a.put o.dst v) y) : wpList P ops Q (o :: rest) a w :=
  wpList_plain hgd fun K hK => wp_invoke x ho hx hm (h.mono fun e y hy => by
    obtain ⟨v, he, hk⟩ := hy
    exact ⟨v, he, hK _ _ hk⟩)
end

mutual
/-- A node that lies in memory, its lists in blocks from B on. -/
def NodeIn (B : Nat) (w : World) : Nd → Value → Prop
  | .mk k a b l, v => ∃ ao cap vs, v = node4 k a b (.slice ao l.length cap) ∧ (a.size ≤ maxLen ∧ b.size ≤ maxLen) ∧ (l ≠ [] → ∃ g o, ao = some ⟨g, o, none⟩ ∧ B ≤ g ∧ RowAt w 4 g o vs) ∧ NodesIn B w l vs
def NodesIn (B : Nat) (w : World) : List Nd → List Value → Prop
  | [], vs => vs = []
  | n :: r, vs => ∃ v vr, vs = v :: vr ∧ NodeIn B w n v ∧ NodesIn B w r vr
end
theorem NodesIn.len {B : Nat} {w : World} : ∀ {l : List Nd} {vs : List Value}, NodesIn B w l vs → vs.length = l.length
  | [], vs, h => by rw [NodesIn] at h; rw [h]; rfl
  | n :: r, vs, h => by
    rw [NodesIn] at h
    obtain ⟨v, vr, rfl, -, hr⟩ := h
    rw [List.length_cons, List.length_cons, NodesIn.len hr]
theorem NodesIn.at {B : Nat} {w : World} : ∀ {l : List Nd} {vs : List Value}, NodesIn B w l vs → ∀ {i : Nat} (h : i < l.length), ∃ v, vs[i]? = some v ∧ NodeIn B w l[i] v
  | n :: r, vs, h, i, hi => by
    rw [NodesIn] at h
    obtain ⟨v, vr, rfl, hn, hr⟩ := h
    match i, hi with
    | 0, _ => exact ⟨v, rfl, hn⟩
    | i + 1, hi =>
      obtain ⟨u, hu, hn'⟩ := NodesIn.at hr (i := i) (by simpa using hi)
      exact ⟨u, by simpa using hu, by simpa using hn'⟩
theorem NodesIn.of {B : Nat} {w : World} : ∀ {l : List Nd} {vs : List Value}, vs.length = l.length → (∀ (i : Nat) (h : i < l.length) (v : Value), vs[i]? = some v → NodeIn B w l[i] v) → NodesIn B w l vs
  | [], vs, hl, _ => by rw [NodesIn]; exact List.eq_nil_of_length_eq_zero hl
  | n :: r, [], hl, _ => by simp at hl
  | n :: r, v :: vr, hl, h => by
    rw [NodesIn]
    refine ⟨v, vr, rfl, h 0 (by simp) v rfl, NodesIn.of (by simpa using hl) fun i hi u hu => ?_⟩
    have := h (i + 1) (by simpa using hi) u (by simpa using hu)
    simpa using this
theorem NodeIn.on {B B' : Nat} {w x : World} (hB : B' ≤ B) (hr : ∀ c g o vs, B ≤ g → RowAt w c g o vs → RowAt x c g o vs) : ∀ (k : Nat) (n : Nd) (v : Value), size n ≤ k → NodeIn B w n v → NodeIn B' x n v
  | 0, n, _, h, _ => by have := size_pos n; omega
  | k + 1, .mk q a b l, v, h, hn => by
    rw [NodeIn] at hn ⊢
    obtain ⟨ao, cap, vs, rfl, hs, hrow, hk⟩ := hn
    refine ⟨ao, cap, vs, rfl, hs, fun hl => ?_, ?_⟩
    · obtain ⟨g, o, e, hg, h1⟩ := hrow hl
      exact ⟨g, o, e, Nat.le_trans hB hg, hr _ _ _ _ hg h1⟩
    · refine NodesIn.of hk.len fun i hi u hu => ?_
      obtain ⟨u', hu', hn'⟩ := hk.at hi
      rw [hu] at hu'
      cases hu'
      refine NodeIn.on hB hr k _ _ ?_ hn'
      have := sizes_mem (List.getElem_mem hi)
      rw [size] at h
      omega
theorem NodeIn.below {B : Nat} {w x : World} {n : Nd} {v : Value} (h : NodeIn B w n v) (hb : Below w.heap.size w x) : NodeIn B x n v := NodeIn.on (Nat.le_refl _) (fun _ _ _ _ _ h => h.below hb) (size n) n v (Nat.le_refl _) h
theorem NodeIn.mono {B B' : Nat} {w : World} {n : Nd} {v : Value} (h : NodeIn B w n v) (hB : B' ≤ B) : NodeIn B' w n v := NodeIn.on hB (fun _ _ _ _ _ h => h) (size n) n v (Nat.le_refl _) h
theorem RowAt.put {w : World} {c g o : Nat} {vs : List Value} (h : RowAt w c g o vs) {p : Addr} (hp : p.block ≠ g) (u : Value) : RowAt (w.setCell p u) c g o vs :=
  h.turn (F := fun k => k = p.block) (Turns.setCell (F := fun k => k = p.block) (Turns.refl _ _) rfl _) fun e => hp e.symm
theorem NodeIn.put {B : Nat} {w : World} {n : Nd} {v : Value} (h : NodeIn B w n v) {p : Addr} (hp : p.block < B) (u : Value) : NodeIn B (w.setCell p u) n v :=
  NodeIn.on (Nat.le_refl _) (fun _ g _ _ hg h => h.put (by omega) u) (size n) n v (Nat.le_refl _) h
theorem NodeIn.is {B : Nat} {w : World} : ∀ (k : Nat) {n : Nd} {v : Value}, size n ≤ k → NodeIn B w n v → IsNode w n v
  | 0, n, _, h, _ => by have := size_pos n; omega
  | k + 1, .mk q a b l, v, h, hn => by
    rw [NodeIn] at hn
    obtain ⟨ao, cap, vs, rfl, hs, hrow, hk⟩ := hn
    rw [IsNode]
    refine ⟨ao, cap, vs, rfl, hs, fun hl => ?_, ?_⟩
    · obtain ⟨g, o, e, -, h1⟩ := hrow hl
      exact ⟨g, o, e, h1⟩
    · refine IsNodes.of hk.len fun i hi u hu => ?_
      obtain ⟨u', hu', hn'⟩ := hk.at hi
      rw [hu] at hu'
      cases hu'
      refine NodeIn.is k ?_ hn'
      have := sizes_mem (List.getElem_mem hi)
      rw [size] at h
      omega
theorem NodesIn.each {B B' : Nat} {w x : World} {l : List Nd} {vs : List Value} (h : NodesIn B w l vs) (hx : ∀ n v, NodeIn B w n v → NodeIn B' x n v) : NodesIn B' x l vs :=
  NodesIn.of h.len fun i hi u hu => by
    obtain ⟨u', hu', hn'⟩ := h.at hi
    rw [hu] at hu'
    cases hu'
    exact hx _ _ hn'
theorem nil_eq {a : ByteArray} (h : nil a = true) : a = ⟨#[]⟩ := by
  cases a with
  | mk d =>
    have : d.toList = [] := by simpa [nil] using h
    rw [Array.toList_eq_nil_iff.1 this]

/-- A node whose list, if it has one, is a block of its own that may be written. -/
def RowFree (x : World) (v : Value) : Prop := ∀ (k : Int) (a b : ByteArray) (g o len cap : Nat), v = node4 k a b (.slice (some ⟨g, o, none⟩) len cap) → o = 0 ∧ ∃ cur, x.heap[g]? = some (.cells cur 24 (0, 0)) ∧ cur.size = len * 4
theorem free_nil (x : World) (k : Int) (a b : ByteArray) : RowFree x (node4 k a b (.slice none 0 0)) := fun k' a' b' g o len cap h => by simp at h
theorem free_row {x : World} {k : Int} {a b : ByteArray} {g len cap : Nat} {cur : Array Value} (h : x.heap[g]? = some (.cells cur 24 (0, 0))) (hs : cur.size = len * 4) : RowFree x (node4 k a b (.slice (some ⟨g, 0, none⟩) len cap)) := fun k' a' b' g' o' len' cap' he => by
  simp at he
  obtain ⟨-, -, -, ⟨rfl, rfl⟩, rfl, rfl⟩ := he
  exact ⟨rfl, cur, h, hs⟩
/-- What an expression's Node answers. -/
def Noded (n : Nd) (w : World) (e : Ending) (x : World) : Prop := ∃ v, e = .returned v ∧ NodeIn w.heap.size x n v ∧ Below w.heap.size w x ∧ RowFree x v
/-- An expression's Node. -/
def Meth (u : Value) (n : Nd) (x : World) : Prop := ∃ f args, (∀ W, (callMethod u "Node" #[]).run Try.prog W = .ok (.enter f args) W) ∧ Calls Try.prog f args x (Noded n x)
end Tr
end Go.Proofs.Ytleoknhnglbgoaa
