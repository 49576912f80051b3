/-
  A region that draws its order, with calls that do as they like within a relation R (what R keeps, the reading operations need): the calls wait for one another; what reads is taken as soon as it may come up, for whatever world is reached along R.
-/
import Derived.Test.YtldacdpejncbnaaHeld
import Derived.OrdersHeld
import Derived.Deep.RegionHeld3
namespace Go.Proofs.Ytldacdpejncbnaa
open Go.RowKit
namespace Order

section
variable {P : Program} {ops : Array Oper} {Q : Exit → Act → World → Prop} {md : Region.Mode}
theorem any_mono {S T : World → Prop} (h : ∀ x, S x → T x) : ∀ (fuel : Nat) (listed : Array Bool) (a : Act) (w : World), wpAnyH P md ops Q S fuel listed a w → wpAnyH P md ops Q T fuel listed a w
  | 0, _, _, _, k => k
  | fuel + 1, _, _, _, k => ⟨k.1, fun i hi => wpOp_mono (fun a' w' k' => ⟨h _ k'.1, any_mono h fuel _ a' w' k'.2⟩) (k.2 i hi)⟩

/-- Operations that read, one behind the other. -/
def Reads (P : Program) (ops : Array Oper) (S : World → Prop) (K : Act → Prop) : List Oper → Act → Prop
  | [], a => K a
  | o :: rest, a => (Region.wanted o (yielded ops a.tmps) = true ∧ ∃ v, (∀ x, S x → (execOp a.eval o).run P x = .ok (.value v) x) ∧ Reads P ops S K rest (a.put o.dst v)) ∨
      (Region.wanted o (yielded ops a.tmps) = false ∧ Reads P ops S K rest (a.put o.dst undef))
theorem reads_on {S : World → Prop} {K : Act → Prop} {o : Oper} {rest : List Oper} {a : Act} {v : Value} (hw : Region.wanted o (yielded ops a.tmps) = true) (h : ∀ x, S x → (execOp a.eval o).run P x = .ok (.value v) x)
    (k : Reads P ops S K rest (a.put o.dst v)) : Reads P ops S K (o :: rest) a := .inl ⟨hw, v, h, k⟩
theorem reads_off {S : World → Prop} {K : Act → Prop} {o : Oper} {rest : List Oper} {a : Act} (hw : Region.wanted o (yielded ops a.tmps) = false)
    (k : Reads P ops S K rest (a.put o.dst undef)) : Reads P ops S K (o :: rest) a := .inr ⟨hw, k⟩
theorem reads_end {S : World → Prop} {K : Act → Prop} {a : Act} (h : K a) : Reads P ops S K [] a := h

/-- Each may come up in its turn, and is apart from all that doesn't wait for it. -/
def readsB (md : Region.Mode) (ops : Array Oper) : List Nat → Array Bool → Bool
  | [], _ => true
  | i :: rest, listed => (Region.ready md ops listed).contains i && Region.free md ops listed i && readsB md ops rest (listed.setIfInBounds i true)
def listedBy : List Nat → Array Bool → Array Bool
  | [], l => l
  | i :: rest, l => listedBy rest (l.setIfInBounds i true)
def pick (ops : Array Oper) : List Nat → List Oper
  | [] => []
  | i :: rest => match ops[i]? with
    | some o => o :: pick ops rest
    | none => pick ops rest

theorem reads_any {S : World → Prop} {w : World} (hs : Region.noSelect ops = true) (hS : S w) (hQ : ∀ c d v a w, Q (.panic c) (Act.put a d v) w → Q (.panic c) a w) (fuel : Nat) : ∀ (idx : List Nat) (listed : Array Bool) (a : Act),
    readsB md ops idx listed = true → Reads P ops S (fun a' => wpAnyH P md ops Q S fuel (listedBy idx listed) a' w) (pick ops idx) a → wpAnyH P md ops Q S (fuel + idx.length) listed a w
  | [], _, _, _, h => h
  | i :: rest, listed, a, hB, h => by
    simp only [readsB, Bool.and_eq_true] at hB
    obtain ⟨⟨hr, hf⟩, hB'⟩ := hB
    cases ho : ops[i]? with
    | none =>
      have hm : i ∈ Region.ready md ops listed := by simpa using hr
      obtain ⟨_, oj, hoj, _⟩ := mem_ready.1 hm
      rw [ho] at hoj
      cases hoj
    | some o =>
      simp only [pick, ho] at h
      rw [List.length_cons, ← Nat.add_assoc]
      have go : ∀ v, YieldsIf P ops S o v a → Reads P ops S (fun a' => wpAnyH P md ops Q S fuel (listedBy (i :: rest) listed) a' w) (pick ops rest) (a.put o.dst v) → wpAnyH P md ops Q S (fuel + rest.length + 1) listed a w := fun v hy hk =>
        wpAnyH_take (v := v) ho hs hf hr (fun c a w => hQ c o.dst v a w) hy hS (reads_any hs hS hQ fuel rest _ _ hB' hk)
      rcases h with ⟨hw, v, hv, hk⟩ | ⟨hw, hk⟩
      · exact go v (.inl ⟨hw, hv⟩) hk
      · exact go undef (.inr ⟨hw, rfl⟩) hk

/-- An operation that must come up now, and may do as it likes along R. -/
theorem acts_any {R : World → World → Prop} (hR : ∀ {x y z}, R x y → R y z → R x z) {w : World} {fuel i : Nat} {listed : Array Bool} {a : Act} {o : Oper} (hi : ops[i]? = some o) (hr : Region.ready md ops listed = [i])
    (hw : Region.wanted o (yielded ops a.tmps) = true) (h : o.wp P a w (fun a' x => R w x ∧ wpAnyH P md ops Q (R x) fuel (listed.setIfInBounds i true) a' x) Q) :
    wpAnyH P md ops Q (R w) (fuel + 1) listed a w := by
  refine wpAnyH_all hr (by simp) fun j hj => ?_
  rw [List.mem_singleton] at hj
  subst hj
  unfold wpOp
  simp only [hi, hw, if_true]
  exact .inl (Oper.wp_mono (fun a' x hx => ⟨hx.1, any_mono (fun y hy => hR hx.1 hy) _ _ _ _ hx.2⟩) h)
/-- The beginning: a region that doesn't panic. -/
theorem region_begin {id : Nat} {S : World → Prop} {a : Act} {w : World} (hm : P.follows .mixedOrders = true) (h : wpAnyH P .any ops (NoPanic Q) S ops.size (Array.replicate ops.size false) a w.drew) : (Code.region id ops true).wp P Q a w :=
  wp_region_noPanic (wp_region_held hm h)
theorem noPanic_put {c : List PanicEntry} {d : Option Tmp} {v : Value} {a : Act} {w : World} (h : NoPanic Q (.panic c) (Act.put a d v) w) : NoPanic Q (.panic c) a w := h
end
/-- New memory alone is made. -/
def Fresh (w x : World) : Prop := Below w.heap.size w x
theorem Fresh.refl (w : World) : Fresh w w := Below.refl _ _
theorem Fresh.trans {x y z : World} (h : Fresh x y) (k : Fresh y z) : Fresh x z := Below.trans h (Below.mono k (Below.size h))
end Order
end Go.Proofs.Ytldacdpejncbnaa
