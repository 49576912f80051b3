/-
  A region that draws its order, a third time (after Ord2): an operation of L need not wait for a read itself: a chain of operations that wait for each other is enough; and an operation that asks nothing of the memory comes first, whatever L says.
-/
import Derived.Test.YtldacdpejncbnaaOrd2
namespace Go.Proofs.Ytldacdpejncbnaa
open Go.RowKit
namespace Order
section
variable {P : Program} {ops : Array Oper} {Q : Exit → Act → World → Prop} {md : Region.Mode} {S : World → Prop} {L : List Nat}
/-- From j a chain of operations that haven't come up leads to i, each waiting for the next one. -/
inductive Chain (md : Region.Mode) (ops : Array Oper) (listed : Array Bool) (i : Nat) : Nat → Prop
  | here : listed.getD i true = false → Chain md ops listed i i
  | step {j k : Nat} {o : Oper} : ops[j]? = some o → (∃ e ∈ o.after, Region.binds md e = true ∧ e.on = k) → listed.getD j true = false → Chain md ops listed i k → Chain md ops listed i j
theorem Chain.un {listed : Array Bool} {i j : Nat} (h : Chain md ops listed i j) : listed.getD j true = false := by
  cases h with
  | here h => exact h
  | step _ _ h _ => exact h
theorem un_not {listed : Array Bool} {k : Nat} (h : listed.getD k true = false) (h1 : listed.getD k false = true) : False := by
  rcases Nat.lt_or_ge k listed.size with h' | h'
  · simp [h'] at h h1; rw [h] at h1; cases h1
  · simp [Array.getElem?_eq_none h'] at h1
theorem Chain.unready {listed : Array Bool} {i j : Nat} (h : Chain md ops listed i j) (hj : j ≠ i) : j ∉ Region.ready md ops listed := fun hr => by
  cases h with
  | here h => exact hj rfl
  | step ho he _ hk =>
    obtain ⟨_, oj, hoj, hall⟩ := mem_ready.1 hr
    rw [ho] at hoj
    cases hoj
    obtain ⟨e, he1, he2, rfl⟩ := he
    exact un_not hk.un (hall e he1 he2)
theorem Chain.goes {listed : Array Bool} {i j x : Nat} (h : Chain md ops listed i j) (hx : x ≠ i) (hr : x ∈ Region.ready md ops listed) : Chain md ops (listed.setIfInBounds x true) i j := by
  induction h with
  | here h => exact .here (by rw [getD_set_ne true hx]; exact h)
  | step ho he hu hk ih =>
    rename_i j k o
    have hjx : x ≠ j := fun e => by
      subst e
      exact (Chain.step ho he hu hk).unready hx hr
    exact .step ho he (by rw [getD_set_ne true hjx]; exact hu) ih
def chainB (md : Region.Mode) (ops : Array Oper) (listed : Array Bool) (i : Nat) : Nat → Nat → Bool
  | 0, j => (j == i) && !listed.getD i true
  | f + 1, j => ((j == i) && !listed.getD i true) || (!listed.getD j true && match ops[j]? with
    | some o => o.after.any fun e => Region.binds md e && chainB md ops listed i f e.on
    | none => false)
theorem chain_of {listed : Array Bool} {i : Nat} : ∀ (f j : Nat), chainB md ops listed i f j = true → Chain md ops listed i j
  | 0, j, h => by
    simp only [chainB, Bool.and_eq_true, beq_iff_eq, Bool.not_eq_true'] at h
    rw [h.1]
    exact .here h.2
  | f + 1, j, h => by
    simp only [chainB, Bool.or_eq_true, Bool.and_eq_true, beq_iff_eq, Bool.not_eq_true'] at h
    rcases h with h | ⟨hu, h⟩
    · rw [h.1]
      exact .here h.2
    · cases ho : ops[j]? with
      | none => rw [ho] at h; cases h
      | some o =>
        rw [ho] at h
        obtain ⟨e, he, h3⟩ := Array.any_eq_true'.1 h
        simp only [Bool.and_eq_true] at h3
        exact .step ho ⟨e, he, h3.1, rfl⟩ hu (chain_of f _ h3.2)
def waitsC (md : Region.Mode) (ops : Array Oper) (L : List Nat) (listed : Array Bool) (i : Nat) : Bool :=
  L.all fun j => (j != i) && (listed.getD j true || chainB md ops listed i 12 j)
theorem anyC_first {i : Nat} {oi : Oper} {v : Value} (hi : ops[i]? = some oi) (hsel : ∀ (j : Nat) (o : Oper) cs b, ops[j]? = some o → o.op ≠ .select cs b)
    (hQ : ∀ c a w, Q (.panic c) (a.put oi.dst v) w → Q (.panic c) a w) :
    ∀ (fuel : Nat) (listed : Array Bool) (a : Act) (w : World),
      (∀ j oj, ops[j]? = some oj → j ≠ i → listed.getD j true = false → (∀ e ∈ oj.after, Region.binds md e = true → e.on ≠ i) → oi.apart ops oj = true) →
      (∀ j ∈ L, j ≠ i ∧ (listed.getD j true = false → Chain md ops listed i j)) →
      i ∈ Region.ready md ops listed → YieldsIf P ops S oi v a → S w →
      wpAnyE P md ops Q S L fuel (listed.setIfInBounds i true) (a.put oi.dst v) w → wpAnyE P md ops Q S L (fuel + 1) listed a w := by
  intro fuel
  induction fuel with
  | zero =>
    intro listed a w _ _ hr hy hS H
    refine ⟨fun h => (by rw [h] at hr; cases hr), fun j hj => ?_⟩
    by_cases hji : j = i
    · subst hji; exact hy.wpOp hi hS ⟨fun _ => hS, H⟩
    · have := ready_mono hj hji
      rw [H.1] at this
      cases this
  | succ fuel ih =>
    intro listed a w hfree hL hr hy hS H
    refine ⟨fun h => (by rw [h] at hr; cases hr), fun j hj => ?_⟩
    by_cases hji : j = i
    · subst hji; exact hy.wpOp hi hS ⟨fun _ => hS, H⟩
    · have h1 := H.2 j (ready_mono hj hji)
      obtain ⟨hjun, oj, hoj, hall⟩ := mem_ready.1 hj
      have hjun' : listed.getD j true = false := hjun
      have hnot : ∀ e ∈ oj.after, Region.binds md e = true → e.on ≠ i := fun e he hb heq => by
        have h1 := hall e he hb
        have h0 := (mem_ready.1 hr).1
        rw [heq] at h1
        exact un_not h0 h1
      have hjL : j ∉ L := fun hm => ((hL j hm).2 hjun').unready (hL j hm).1 hj
      have h2 := wpOp_putIf hoj (hfree j oj hoj hji hjun hnot) (fun cs b => hsel i oi cs b hi) (fun cs b => hsel j oj cs b hoj) hQ hy h1
      have hfree' : ∀ k ok, ops[k]? = some ok → k ≠ i → (listed.setIfInBounds j true).getD k true = false →
          (∀ e ∈ ok.after, Region.binds md e = true → e.on ≠ i) → oi.apart ops ok = true := fun k ok hk hki hun hno => by
        refine hfree k ok hk hki ?_ hno
        by_cases hjk : j = k
        · subst hjk; exact hjun
        · rw [getD_set_ne true hjk] at hun; exact hun
      have hL' : ∀ k ∈ L, k ≠ i ∧ ((listed.setIfInBounds j true).getD k true = false → Chain md ops (listed.setIfInBounds j true) i k) := fun k hk => by
        refine ⟨(hL k hk).1, fun hun => ((hL k hk).2 ?_).goes hji hj⟩
        by_cases hjk : j = k
        · subst hjk; exact hjun
        · rw [getD_set_ne true hjk] at hun; exact hun
      refine wpOp_mono (fun a' w' h3 => ⟨h3.2.1, ih (listed.setIfInBounds j true) a' w' hfree' hL' (ready_mono hr (Ne.symm hji)) h3.1 (h3.2.1 hjL) ?_⟩) h2
      rw [Array.setIfInBounds_comm _ _ hji]
      exact h3.2.2
/-- An operation of L that asks nothing of the memory. -/
theorem anyF_first {i : Nat} {oi : Oper} {v : Value} (hi : ops[i]? = some oi) (hsel : ∀ (j : Nat) (o : Oper) cs b, ops[j]? = some o → o.op ≠ .select cs b)
    (hQ : ∀ c a w, Q (.panic c) (a.put oi.dst v) w → Q (.panic c) a w) (hiL : i ∈ L) :
    ∀ (fuel : Nat) (listed : Array Bool) (a : Act) (w : World),
      (∀ j oj, ops[j]? = some oj → j ≠ i → listed.getD j true = false → (∀ e ∈ oj.after, Region.binds md e = true → e.on ≠ i) → oi.apart ops oj = true) →
      i ∈ Region.ready md ops listed → YieldsIf P ops (fun _ => True) oi v a →
      wpAnyE P md ops Q S L fuel (listed.setIfInBounds i true) (a.put oi.dst v) w → wpAnyE P md ops Q S L (fuel + 1) listed a w := by
  intro fuel
  induction fuel with
  | zero =>
    intro listed a w _ hr hy H
    refine ⟨fun h => (by rw [h] at hr; cases hr), fun j hj => ?_⟩
    by_cases hji : j = i
    · subst hji; exact hy.wpOp hi trivial ⟨fun h => absurd hiL h, H⟩
    · have := ready_mono hj hji
      rw [H.1] at this
      cases this
  | succ fuel ih =>
    intro listed a w hfree hr hy H
    refine ⟨fun h => (by rw [h] at hr; cases hr), fun j hj => ?_⟩
    by_cases hji : j = i
    · subst hji; exact hy.wpOp hi trivial ⟨fun h => absurd hiL h, H⟩
    · have h1 := H.2 j (ready_mono hj hji)
      obtain ⟨hjun, oj, hoj, hall⟩ := mem_ready.1 hj
      have hnot : ∀ e ∈ oj.after, Region.binds md e = true → e.on ≠ i := fun e he hb heq => by
        have h1 := hall e he hb
        have h0 := (mem_ready.1 hr).1
        rw [heq] at h1
        exact un_not h0 h1
      have h2 := wpOp_putIf hoj (hfree j oj hoj hji hjun hnot) (fun cs b => hsel i oi cs b hi) (fun cs b => hsel j oj cs b hoj) hQ hy h1
      have hfree' : ∀ k ok, ops[k]? = some ok → k ≠ i → (listed.setIfInBounds j true).getD k true = false →
          (∀ e ∈ ok.after, Region.binds md e = true → e.on ≠ i) → oi.apart ops ok = true := fun k ok hk hki hun hno => by
        refine hfree k ok hk hki ?_ hno
        by_cases hjk : j = k
        · subst hjk; exact hjun
        · rw [getD_set_ne true hjk] at hun; exact hun
      refine wpOp_mono (fun a' w' h3 => ⟨h3.2.1, ih (listed.setIfInBounds j true) a' w' hfree' (ready_mono hr (Ne.symm hji)) h3.1 ?_⟩) h2
      rw [Array.setIfInBounds_comm _ _ hji]
      exact h3.2.2
theorem anyC_take {i : Nat} {oi : Oper} {v : Value} {fuel : Nat} {listed : Array Bool} {a : Act} {w : World} (hi : ops[i]? = some oi)
    (hs : Region.noSelect ops = true) (hf : Region.free md ops listed i = true) (hl : waitsC md ops L listed i = true) (hr : (Region.ready md ops listed).contains i = true)
    (hQ : ∀ c a w, Q (.panic c) (a.put oi.dst v) w → Q (.panic c) a w) (hy : YieldsIf P ops S oi v a) (hS : S w)
    (h : wpAnyE P md ops Q S L fuel (listed.setIfInBounds i true) (a.put oi.dst v) w) : wpAnyE P md ops Q S L (fuel + 1) listed a w :=
  anyC_first hi (Region.noSelect_spec hs) hQ fuel listed a w (Region.free_spec hi hf) (fun j hj => by
    have := List.all_eq_true.1 hl j hj
    simp only [Bool.and_eq_true, Bool.or_eq_true, bne_iff_ne, ne_eq] at this
    refine ⟨this.1, fun hun => ?_⟩
    rcases this.2 with h2 | h2
    · rw [hun] at h2; cases h2
    · exact chain_of _ _ h2) (by simpa using hr) hy hS h
def readsC (md : Region.Mode) (ops : Array Oper) (L : List Nat) : List Nat → Array Bool → Bool
  | [], _ => true
  | i :: rest, listed => (Region.ready md ops listed).contains i && Region.free md ops listed i && waitsC md ops L listed i && readsC md ops L rest (listed.setIfInBounds i true)
theorem readsC_any {w : World} (hs : Region.noSelect ops = true) (hS : S w) (hQ : ∀ c d v a w, Q (.panic c) (Act.put a d v) w → Q (.panic c) a w) (fuel : Nat) : ∀ (idx : List Nat) (listed : Array Bool) (a : Act),
    readsC md ops L idx listed = true → Reads P ops S (fun a' => wpAnyE P md ops Q S L fuel (listedBy idx listed) a' w) (pick ops idx) a → wpAnyE P md ops Q S L (fuel + idx.length) listed a w
  | [], _, _, _, h => h
  | i :: rest, listed, a, hB, h => by
    simp only [readsC, Bool.and_eq_true] at hB
    obtain ⟨⟨⟨hr, hf⟩, hl⟩, hB'⟩ := hB
    cases ho : ops[i]? with
    | none =>
      have hm : i ∈ Region.ready md ops listed := by simpa using hr
      obtain ⟨_, oj, hoj, _⟩ := mem_ready.1 hm
      rw [ho] at hoj
      cases hoj
    | some o =>
      simp only [pick, ho] at h
      rw [List.length_cons, ← Nat.add_assoc]
      have go : ∀ v, YieldsIf P ops S o v a → Reads P ops S (fun a' => wpAnyE P md ops Q S L fuel (listedBy (i :: rest) listed) a' w) (pick ops rest) (a.put o.dst v) → wpAnyE P md ops Q S L (fuel + rest.length + 1) listed a w := fun v hy hk =>
        anyC_take (v := v) ho hs hf hl hr (fun c a w => hQ c o.dst v a w) hy hS (readsC_any hs hS hQ fuel rest _ _ hB' hk)
      rcases h with ⟨hw, v, hv, hk⟩ | ⟨hw, hk⟩
      · exact go v (.inl ⟨hw, hv⟩) hk
      · exact go undef (.inr ⟨hw, rfl⟩) hk
/-- An operation of L that asks nothing of the memory, taken now. -/
theorem freeC {i : Nat} {oi : Oper} {v : Value} {fuel : Nat} {listed : Array Bool} {a : Act} {w : World} (hi : ops[i]? = some oi)
    (hs : Region.noSelect ops = true) (hiL : i ∈ L) (hf : Region.free md ops listed i = true) (hr : (Region.ready md ops listed).contains i = true)
    (hQ : ∀ c d v a w, Q (.panic c) (Act.put a d v) w → Q (.panic c) a w) (hw : Region.wanted oi (yielded ops a.tmps) = true) (hv : ∀ w, (execOp a.eval oi).run P w = .ok (.value v) w)
    (h : wpAnyE P md ops Q S L fuel (listed.setIfInBounds i true) (a.put oi.dst v) w) : wpAnyE P md ops Q S L (fuel + 1) listed a w :=
  anyF_first hi (Region.noSelect_spec hs) (fun c a w => hQ c oi.dst v a w) hiL fuel listed a w (Region.free_spec hi hf) (by simpa using hr) (.inl ⟨hw, fun w _ => hv w⟩) h
end
end Order
end Go.Proofs.Ytldacdpejncbnaa
