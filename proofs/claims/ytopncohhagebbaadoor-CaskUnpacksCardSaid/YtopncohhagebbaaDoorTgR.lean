/-
  Layer 5 (tract): type assertions at each of the six types, for every world.
  Layer 5 (tract): eachPart: an expression and all within it are shown to a function.
  Layer 5 (tract): reference, plain: what an expression itself is.
  Layer 5 (tract): Refs, Direct, Plain, of an expression.
-/
import Derived.Test.YtopncohhagebbaaDoorTrMem
import Derived.Test.YtopncohhagebbaaDoorTrThr
import Derived.Test.YtopncohhagebbaaDoorTrBuild
import Derived.Test.YtopncohhagebbaaDoorMgMem
namespace Go.Proofs.YtopncohhagebbaaDoor
open Go.RowKit
namespace Tr

theorem asThis_hit (x : Value) (W : World) : (Instr.typeAssert (.iface 131 x) 102 131 true).run Tryd.prog W = .ok (.tuple #[x, .bool true]) W := by kernel_rfl
theorem asThis_Computed (x : Value) (W : World) : (Instr.typeAssert (.iface 120 x) 102 131 true).run Tryd.prog W = .ok (.tuple #[.agg #[], .bool false]) W := by kernel_rfl
theorem asThis_Arrow (x : Value) (W : World) : (Instr.typeAssert (.iface 122 x) 102 131 true).run Tryd.prog W = .ok (.tuple #[.agg #[], .bool false]) W := by kernel_rfl
theorem asThis_Union (x : Value) (W : World) : (Instr.typeAssert (.iface 126 x) 102 131 true).run Tryd.prog W = .ok (.tuple #[.agg #[], .bool false]) W := by kernel_rfl
theorem asThis_Meet (x : Value) (W : World) : (Instr.typeAssert (.iface 127 x) 102 131 true).run Tryd.prog W = .ok (.tuple #[.agg #[], .bool false]) W := by kernel_rfl
theorem asThis_Except (x : Value) (W : World) : (Instr.typeAssert (.iface 129 x) 102 131 true).run Tryd.prog W = .ok (.tuple #[.agg #[], .bool false]) W := by kernel_rfl
theorem asComputed_hit (x : Value) (W : World) : (Instr.typeAssert (.iface 120 x) 102 120 true).run Tryd.prog W = .ok (.tuple #[x, .bool true]) W := by kernel_rfl
theorem asComputed_This (x : Value) (W : World) : (Instr.typeAssert (.iface 131 x) 102 120 true).run Tryd.prog W = .ok (.tuple #[.agg #[.string ⟨#[]⟩], .bool false]) W := by kernel_rfl
theorem asComputed_Arrow (x : Value) (W : World) : (Instr.typeAssert (.iface 122 x) 102 120 true).run Tryd.prog W = .ok (.tuple #[.agg #[.string ⟨#[]⟩], .bool false]) W := by kernel_rfl
theorem asComputed_Union (x : Value) (W : World) : (Instr.typeAssert (.iface 126 x) 102 120 true).run Tryd.prog W = .ok (.tuple #[.agg #[.string ⟨#[]⟩], .bool false]) W := by kernel_rfl
theorem asComputed_Meet (x : Value) (W : World) : (Instr.typeAssert (.iface 127 x) 102 120 true).run Tryd.prog W = .ok (.tuple #[.agg #[.string ⟨#[]⟩], .bool false]) W := by kernel_rfl
theorem asComputed_Except (x : Value) (W : World) : (Instr.typeAssert (.iface 129 x) 102 120 true).run Tryd.prog W = .ok (.tuple #[.agg #[.string ⟨#[]⟩], .bool false]) W := by kernel_rfl
theorem asArrow_hit (x : Value) (W : World) : (Instr.typeAssert (.iface 122 x) 102 122 true).run Tryd.prog W = .ok (.tuple #[x, .bool true]) W := by kernel_rfl
theorem asArrow_This (x : Value) (W : World) : (Instr.typeAssert (.iface 131 x) 102 122 true).run Tryd.prog W = .ok (.tuple #[.agg #[.string ⟨#[]⟩, .string ⟨#[]⟩], .bool false]) W := by kernel_rfl
theorem asArrow_Computed (x : Value) (W : World) : (Instr.typeAssert (.iface 120 x) 102 122 true).run Tryd.prog W = .ok (.tuple #[.agg #[.string ⟨#[]⟩, .string ⟨#[]⟩], .bool false]) W := by kernel_rfl
theorem asArrow_Union (x : Value) (W : World) : (Instr.typeAssert (.iface 126 x) 102 122 true).run Tryd.prog W = .ok (.tuple #[.agg #[.string ⟨#[]⟩, .string ⟨#[]⟩], .bool false]) W := by kernel_rfl
theorem asArrow_Meet (x : Value) (W : World) : (Instr.typeAssert (.iface 127 x) 102 122 true).run Tryd.prog W = .ok (.tuple #[.agg #[.string ⟨#[]⟩, .string ⟨#[]⟩], .bool false]) W := by kernel_rfl
theorem asArrow_Except (x : Value) (W : World) : (Instr.typeAssert (.iface 129 x) 102 122 true).run Tryd.prog W = .ok (.tuple #[.agg #[.string ⟨#[]⟩, .string ⟨#[]⟩], .bool false]) W := by kernel_rfl
theorem asUnion_hit (x : Value) (W : World) : (Instr.typeAssert (.iface 126 x) 102 126 true).run Tryd.prog W = .ok (.tuple #[x, .bool true]) W := by kernel_rfl
theorem asUnion_This (x : Value) (W : World) : (Instr.typeAssert (.iface 131 x) 102 126 true).run Tryd.prog W = .ok (.tuple #[.agg #[.slice none 0 0], .bool false]) W := by kernel_rfl
theorem asUnion_Computed (x : Value) (W : World) : (Instr.typeAssert (.iface 120 x) 102 126 true).run Tryd.prog W = .ok (.tuple #[.agg #[.slice none 0 0], .bool false]) W := by kernel_rfl
theorem asUnion_Arrow (x : Value) (W : World) : (Instr.typeAssert (.iface 122 x) 102 126 true).run Tryd.prog W = .ok (.tuple #[.agg #[.slice none 0 0], .bool false]) W := by kernel_rfl
theorem asUnion_Meet (x : Value) (W : World) : (Instr.typeAssert (.iface 127 x) 102 126 true).run Tryd.prog W = .ok (.tuple #[.agg #[.slice none 0 0], .bool false]) W := by kernel_rfl
theorem asUnion_Except (x : Value) (W : World) : (Instr.typeAssert (.iface 129 x) 102 126 true).run Tryd.prog W = .ok (.tuple #[.agg #[.slice none 0 0], .bool false]) W := by kernel_rfl
theorem asMeet_hit (x : Value) (W : World) : (Instr.typeAssert (.iface 127 x) 102 127 true).run Tryd.prog W = .ok (.tuple #[x, .bool true]) W := by kernel_rfl
theorem asMeet_This (x : Value) (W : World) : (Instr.typeAssert (.iface 131 x) 102 127 true).run Tryd.prog W = .ok (.tuple #[.agg #[.slice none 0 0], .bool false]) W := by kernel_rfl
theorem asMeet_Computed (x : Value) (W : World) : (Instr.typeAssert (.iface 120 x) 102 127 true).run Tryd.prog W = .ok (.tuple #[.agg #[.slice none 0 0], .bool false]) W := by kernel_rfl
theorem asMeet_Arrow (x : Value) (W : World) : (Instr.typeAssert (.iface 122 x) 102 127 true).run Tryd.prog W = .ok (.tuple #[.agg #[.slice none 0 0], .bool false]) W := by kernel_rfl
theorem asMeet_Union (x : Value) (W : World) : (Instr.typeAssert (.iface 126 x) 102 127 true).run Tryd.prog W = .ok (.tuple #[.agg #[.slice none 0 0], .bool false]) W := by kernel_rfl
theorem asMeet_Except (x : Value) (W : World) : (Instr.typeAssert (.iface 129 x) 102 127 true).run Tryd.prog W = .ok (.tuple #[.agg #[.slice none 0 0], .bool false]) W := by kernel_rfl
theorem asExcept_hit (x : Value) (W : World) : (Instr.typeAssert (.iface 129 x) 102 129 true).run Tryd.prog W = .ok (.tuple #[x, .bool true]) W := by kernel_rfl
theorem asExcept_This (x : Value) (W : World) : (Instr.typeAssert (.iface 131 x) 102 129 true).run Tryd.prog W = .ok (.tuple #[.agg #[.nilIface, .nilIface], .bool false]) W := by kernel_rfl
theorem asExcept_Computed (x : Value) (W : World) : (Instr.typeAssert (.iface 120 x) 102 129 true).run Tryd.prog W = .ok (.tuple #[.agg #[.nilIface, .nilIface], .bool false]) W := by kernel_rfl
theorem asExcept_Arrow (x : Value) (W : World) : (Instr.typeAssert (.iface 122 x) 102 129 true).run Tryd.prog W = .ok (.tuple #[.agg #[.nilIface, .nilIface], .bool false]) W := by kernel_rfl
theorem asExcept_Union (x : Value) (W : World) : (Instr.typeAssert (.iface 126 x) 102 129 true).run Tryd.prog W = .ok (.tuple #[.agg #[.nilIface, .nilIface], .bool false]) W := by kernel_rfl
theorem asExcept_Meet (x : Value) (W : World) : (Instr.typeAssert (.iface 127 x) 102 129 true).run Tryd.prog W = .ok (.tuple #[.agg #[.nilIface, .nilIface], .bool false]) W := by kernel_rfl
theorem asArrow_one (x : Value) (W : World) : (Instr.typeAssert (.iface 122 x) 102 122 false).run Tryd.prog W = .ok x W := by kernel_rfl
end Tr
end Go.Proofs.YtopncohhagebbaaDoor

namespace Go.Proofs.YtopncohhagebbaaDoor
open Go.RowKit
namespace Tr
open Knot (Turns NewRow)

section
variable {σ : Type} (stp : σ → Nd → Bool → σ)
mutual
/-- What is left behind an expression and all within it. -/
def seen : Nd → Bool → σ → σ
  | .mk k a b l, odd, s => seens k l 0 odd (stp s (.mk k a b l) odd)
def seens (k : Int) : List Nd → Nat → Bool → σ → σ
  | [], _, _, s => s
  | n :: r, i, odd, s => seens k r (i + 1) odd (seen n (odd != flip k i) s)
end
theorem seens_append (k : Int) (odd : Bool) : ∀ (l m : List Nd) (i : Nat) (s : σ), seens stp k (l ++ m) i odd s = seens stp k m (i + l.length) odd (seens stp k l i odd s)
  | [], m, i, s => by simp [seens]
  | n :: l, m, i, s => by rw [List.cons_append, seens, seens, seens_append k odd l m (i + 1), List.length_cons, show i + 1 + l.length = i + (l.length + 1) by omega]
theorem seens_take (k : Int) (odd : Bool) {l : List Nd} {i : Nat} (h : i < l.length) (s : σ) : seens stp k (l.take (i + 1)) 0 odd s = seen stp l[i] (odd != flip k i) (seens stp k (l.take i) 0 odd s) := by
  rw [List.take_succ_eq_append_getElem h, seens_append, List.length_take, Nat.min_eq_left (by omega)]
  simp [seens]
end

/-- What a call did, that had the blocks of F, and has those of G. -/
structure After (F G : Nat → Prop) (w x : World) : Prop where
  turns : Turns F w x
  new : ∀ k, G k → F k ∨ w.heap.size ≤ k
theorem After.refl (F : Nat → Prop) (w : World) : After F F w w := ⟨Turns.refl _ _, fun _ h => .inl h⟩
theorem After.trans {F G H : Nat → Prop} {w x y : World} (h : After F G w x) (k : After G H x y) : After F H w y :=
  ⟨h.turns.trans k.turns fun b hb hg => (h.new b hg).resolve_right (by omega), fun b hb => by
    rcases k.new b hb with h1 | h1
    · exact h.new b h1
    · exact .inr (Nat.le_trans h.turns.size h1)⟩
theorem After.of_below {F : Nat → Prop} {w x : World} (h : Below w.heap.size w x) : After F F w x := ⟨Turns.of_below h, fun _ h => .inl h⟩
theorem After.then_below {F G H : Nat → Prop} {w x y : World} (h : After F G w x) (k : Below x.heap.size x y) (hs : ∀ k, H k → G k) : After F H w y := h.trans ⟨Turns.of_below k, fun b hb => .inl (hs b hb)⟩
theorem After.after_below {F G : Nat → Prop} {w x y : World} (h : Below w.heap.size w x) (k : After F G x y) : After F G w y := (After.of_below h).trans k

/-- A function that expressions are shown to. -/
structure Sees (W : World) (f : FuncId) (cap : Array Value) {σ : Type} (St : Nat → σ → World → Prop) (foot : World → Nat → Prop) (stp : σ → Nd → Bool → σ) : Prop where
  enter : ∀ args x, (callFunc f args).run Tryd.prog x = .ok (.enter f args) x
  low : ∀ m s x k, St m s x → foot x k → W.heap.size ≤ k ∧ k < x.heap.size
  keep : ∀ m s x y, St m s x → Below x.heap.size x y → St m s y
  same : ∀ m s x y, St m s x → Below x.heap.size x y → ∀ k, foot y k → foot x k
  see : ∀ m s x n u odd, St (m + 1) s x → good n = true → IsExpr 0 x n u → Calls Tryd.prog f (#[u, .bool odd] ++ cap) x fun e y => e = .returned (.tuple #[]) ∧ St m (stp s n odd) y ∧ After (foot x) (foot y) x y
theorem Sees.below {W : World} {f : FuncId} {cap : Array Value} {σ : Type} {St : Nat → σ → World → Prop} {foot : World → Nat → Prop} {stp : σ → Nd → Bool → σ} (h : Sees W f cap St foot stp) {m : Nat} {s : σ} {x y : World} {G : Nat → Prop} (hs : St m s x) (hW : W.heap.size ≤ x.heap.size) (ha : After (foot x) G x y) : Below W.heap.size x y :=
  ha.turns.below hW fun _ hk => (h.low _ _ _ _ hs hk).1

/-- What comes of a call that shows an expression. -/
def Shown {σ : Type} (St : Nat → σ → World → Prop) (foot : World → Nat → Prop) (m : Nat) (_s s' : σ) (x : World) (e : Ending) (y : World) : Prop :=
  e = .returned (.tuple #[]) ∧ St m s' y ∧ After (foot x) (foot y) x y

end Tr
end Go.Proofs.YtopncohhagebbaaDoor

namespace Go.Proofs.YtopncohhagebbaaDoor
open Go.RowKit
namespace Tr
open Knot (Turns)

/-- A reference's value. -/
abbrev refV (r : Rf) : Value := .agg #[.string r.via, .string r.rel, .bool r.odd]
/-- The reference that a node itself is: even, as it stands. -/
def refOf : Nd → Rf
  | .mk k a b _ => if k = 2 then ⟨none0, a, false⟩ else if k = 3 then ⟨a, b, false⟩ else ⟨none0, none0, false⟩
def isRef : Nd → Bool
  | .mk k _ _ _ => k == 2 || k == 3
def isThis : Nd → Bool
  | .mk k _ _ _ => k == 1

theorem cells3 {R : Nat} {v0 v1 v2 : Value} {T : TypeId} {x : World} (h : x.heap[R]? = some (.cells #[v0, v1, v2] T (0, 0))) : x.cell? ⟨R, 0, none⟩ = some v0 ∧ x.cell? ⟨R, 1, none⟩ = some v1 ∧ x.cell? ⟨R, 2, none⟩ = some v2 ∧ x.frozen? ⟨R, 0, none⟩ = false ∧ x.frozen? ⟨R, 1, none⟩ = false ∧ x.frozen? ⟨R, 2, none⟩ = false :=
  ⟨by rw [Lib.cell_of_heap h]; rfl, by rw [Lib.cell_of_heap h]; rfl, by rw [Lib.cell_of_heap h]; rfl, Lib.frozen_of_heap h 0, Lib.frozen_of_heap h 1, Lib.frozen_of_heap h 2⟩
theorem cells2 {R : Nat} {v0 v1 : Value} {T : TypeId} {x : World} (h : x.heap[R]? = some (.cells #[v0, v1] T (0, 0))) : x.cell? ⟨R, 0, none⟩ = some v0 ∧ x.cell? ⟨R, 1, none⟩ = some v1 ∧ x.frozen? ⟨R, 0, none⟩ = false ∧ x.frozen? ⟨R, 1, none⟩ = false :=
  ⟨by rw [Lib.cell_of_heap h]; rfl, by rw [Lib.cell_of_heap h]; rfl, Lib.frozen_of_heap h 0, Lib.frozen_of_heap h 1⟩
theorem good_words {k : Int} {a b : ByteArray} {l : List Nd} (h : good (.mk k a b l) = true) : (k = 2 → a.size ≤ 16) ∧ (k = 3 → a.size ≤ 16 ∧ b.size ≤ 16) := by
  rw [good, Bool.and_eq_true] at h
  have hf := h.2
  rw [fits] at hf
  refine ⟨?_, ?_⟩
  · rintro rfl
    have hw : word a = true := by revert hf; simp; exact fun h _ _ => h
    exact word_len hw
  · rintro rfl
    have hw : word a = true ∧ word b = true := by revert hf; simp; exact fun h h' _ => ⟨h, h'⟩
    exact ⟨word_len hw.1, word_len hw.2⟩

end Tr
end Go.Proofs.YtopncohhagebbaaDoor

namespace Go.Proofs.YtopncohhagebbaaDoor
open Go.RowKit
namespace Tr
open Knot (Turns NewRow)

/-- The cells of references. -/
def cellsR (l : List Rf) : List Value := l.flatMap fun r => [.string r.via, .string r.rel, .bool r.odd]
theorem cellsR_append (l m : List Rf) : cellsR (l ++ m) = cellsR l ++ cellsR m := by simp [cellsR]
/-- What the references come to. -/
def stpR (s : List Rf) (n : Nd) (odd : Bool) : List Rf := if isRef n then s ++ [⟨(refOf n).via, (refOf n).rel, odd⟩] else s

theorem new_alloc (w : World) (o : Obj) : Below w.heap.size w (w.alloc o) := (Below.refl _ _).alloc (Nat.le_refl _) o

mutual
/-- The references, as eachPart comes to them, are those of the document. -/
theorem seen_refs : ∀ (n : Nd) (odd : Bool) (s : List Rf), good n = true → seen stpR n odd s = s ++ refs n odd
  | .mk k a b l, odd, s, hg => by
    rw [good, Bool.and_eq_true] at hg
    obtain ⟨hgs, hf⟩ := hg
    rw [seen, seens_refs k l 0 odd _ hgs, stpR, refs]
    by_cases h2 : k = 2
    · subst h2
      have hl : l = [] := by
        revert hf
        rw [fits]
        simp
      subst hl
      simp [isRef, refOf, refss]
    · by_cases h3 : k = 3
      · subst h3
        have hl : l = [] := by
          revert hf
          rw [fits]
          simp
        subst hl
        simp [isRef, refOf, refss]
      · simp [isRef, h2, h3]
theorem seens_refs (k : Int) : ∀ (l : List Nd) (i : Nat) (odd : Bool) (s : List Rf), goods l = true → seens stpR k l i odd s = s ++ refss k l i odd
  | [], i, odd, s, _ => by simp [seens, refss]
  | n :: r, i, odd, s, hg => by
    rw [goods, Bool.and_eq_true] at hg
    rw [seens, refss, seen_refs n _ s hg.1, seens_refs k r (i + 1) odd _ hg.2, List.append_assoc]
end

/-! ### is there a This? -/
/-- A truth in a cell. -/
def BoolAt (K : Nat) (b : Bool) (x : World) : Prop := x.heap[K]? = some (.cells #[.bool b] 4 (0, 0))
theorem BoolAt.cell {K : Nat} {b : Bool} {x : World} (h : BoolAt K b x) : x.cell? ⟨K, 0, none⟩ = some (.bool b) ∧ x.frozen? ⟨K, 0, none⟩ = false := ⟨by rw [Lib.cell_of_heap h]; rfl, Lib.frozen_of_heap h 0⟩
theorem BoolAt.lt {K : Nat} {b : Bool} {x : World} (h : BoolAt K b x) : K < x.heap.size := (Array.getElem?_eq_some_iff.1 h).1
theorem BoolAt.on {K : Nat} {b : Bool} {x y : World} (h : BoolAt K b x) (hb : Below x.heap.size x y) : BoolAt K b y := (hb.block K h.lt).trans h
theorem BoolAt.put {K : Nat} {b : Bool} {x : World} (h : BoolAt K b x) (c : Bool) : BoolAt K c (x.setCell ⟨K, 0, none⟩ (.bool c)) := by
  rw [BoolAt, heap_setCell_same x K 0 #[.bool b] _ _ h]
  rfl
def stpD (want : Bool) (s : Bool) (n : Nd) (odd : Bool) : Bool := s || ((odd == want) && isThis n)

mutual
/-- Whether eachPart comes to a This that stands so. -/
theorem seen_direct (want : Bool) : ∀ (n : Nd) (odd : Bool) (s : Bool), seen (stpD want) n odd s = (s || direct n want odd)
  | .mk k a b l, odd, s => by
    rw [seen, seens_direct want k l 0 odd, direct, stpD, isThis, Bool.or_assoc, Bool.or_comm (directs k l 0 want odd), Bool.and_comm (k == 1)]
    rw [show (odd == want) = (want == odd) from Bool.beq_comm]
theorem seens_direct (want : Bool) (k : Int) : ∀ (l : List Nd) (i : Nat) (odd : Bool) (s : Bool), seens (stpD want) k l i odd s = (s || directs k l i want odd)
  | [], i, odd, s => by simp [seens, directs]
  | n :: r, i, odd, s => by
    rw [seens, directs, seen_direct want n _ s, seens_direct want k r (i + 1) odd, Bool.or_assoc]
end

end Tr
end Go.Proofs.YtopncohhagebbaaDoor
