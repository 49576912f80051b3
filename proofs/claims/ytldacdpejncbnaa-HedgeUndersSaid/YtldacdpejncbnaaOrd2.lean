/-
  A region that draws its order, once more (after Order, and the library's OrdersHeld): one condition S on the worlds, which need not hold behind the operations of a list L, each of which waits for what was read: so a cell that the region's last operation stores to may be read first.
-/
import Derived.Test.YtldacdpejncbnaaOrder
namespace Go.Proofs.Ytldacdpejncbnaa
open Go.RowKit
namespace Order
section
variable {P : Program} {ops : Array Oper} {Q : Exit → Act → World → Prop} {md : Region.Mode} {S : World → Prop} {L : List Nat}

/-- Whatever order is picked from here on, and S holds behind each operation that is not of L. -/
def wpAnyE (P : Program) (md : Region.Mode) (ops : Array Oper) (Q : Exit → Act → World → Prop) (S : World → Prop) (L : List Nat) : Nat → Array Bool → Act → World → Prop
  | 0, listed, a, w => Region.ready md ops listed = [] ∧ Q .normal a w
  | fuel + 1, listed, a, w =>
    (Region.ready md ops listed = [] → Q .normal a w) ∧
    ∀ i ∈ Region.ready md ops listed, wpOp P ops Q i (fun a' w' => (i ∉ L → S w') ∧ wpAnyE P md ops Q S L fuel (listed.setIfInBounds i true) a' w') a w
theorem anyE_any : ∀ (fuel : Nat) (listed : Array Bool) (a : Act) (w : World), wpAnyE P md ops Q S L fuel listed a w → wpAny P md ops Q fuel listed a w
  | 0, _, _, _, h => h
  | fuel + 1, _, _, _, h => ⟨h.1, fun i hi => wpOp_mono (fun a' w' h' => anyE_any fuel _ a' w' h'.2) (h.2 i hi)⟩
/-- Each of L that hasn't come up waits for i. -/
def waitsB (md : Region.Mode) (ops : Array Oper) (L : List Nat) (listed : Array Bool) (i : Nat) : Bool :=
  L.all fun j => (j != i) && (listed.getD j true || match ops[j]? with
    | some o => o.after.any fun e => Region.binds md e && e.on == i
    | none => true)

theorem anyE_first {i : Nat} {oi : Oper} {v : Value} (hi : ops[i]? = some oi) (hsel : ∀ (j : Nat) (o : Oper) cs b, ops[j]? = some o → o.op ≠ .select cs b)
    (hQ : ∀ c a w, Q (.panic c) (a.put oi.dst v) w → Q (.panic c) a w) :
    ∀ (fuel : Nat) (listed : Array Bool) (a : Act) (w : World),
      (∀ j oj, ops[j]? = some oj → j ≠ i → listed.getD j true = false → (∀ e ∈ oj.after, Region.binds md e = true → e.on ≠ i) → oi.apart ops oj = true) →
      (∀ j ∈ L, j ≠ i ∧ (listed.getD j true = false → ∀ oj, ops[j]? = some oj → ∃ e ∈ oj.after, Region.binds md e = true ∧ e.on = i)) →
      i ∈ Region.ready md ops listed → YieldsIf P ops S oi v a → S w →
      wpAnyE P md ops Q S L fuel (listed.setIfInBounds i true) (a.put oi.dst v) w → wpAnyE P md ops Q S L (fuel + 1) listed a w := by
  intro fuel
  induction fuel with
  | zero =>
    intro listed a w _ _ hr hy hS H
    refine ⟨fun h => (by rw [h] at hr; cases hr), fun j hj => ?_⟩
    by_cases hji : j = i
    · subst hji; exact hy.wpOp hi hS ⟨fun _ => hS, H⟩
    · have := ready_mono hj hji
      rw [H.1] at this
      cases this
  | succ fuel ih =>
    intro listed a w hfree hL hr hy hS H
    refine ⟨fun h => (by rw [h] at hr; cases hr), fun j hj => ?_⟩
    by_cases hji : j = i
    · subst hji; exact hy.wpOp hi hS ⟨fun _ => hS, H⟩
    · have h1 := H.2 j (ready_mono hj hji)
      obtain ⟨hjun, oj, hoj, hall⟩ := mem_ready.1 hj
      have hnot : ∀ e ∈ oj.after, Region.binds md e = true → e.on ≠ i := fun e he hb heq => by
        have h1 := hall e he hb
        have h0 := (mem_ready.1 hr).1
        rw [heq] at h1
        rcases Nat.lt_or_ge i listed.size with h' | h'
        · simp [h'] at h0 h1; rw [h0] at h1; cases h1
        · simp [Array.getElem?_eq_none h'] at h1
      have hjL : j ∉ L := fun hm => by
        obtain ⟨e, he, hb, heq⟩ := (hL j hm).2 hjun oj hoj
        exact hnot e he hb heq
      have h2 := wpOp_putIf hoj (hfree j oj hoj hji hjun hnot) (fun cs b => hsel i oi cs b hi) (fun cs b => hsel j oj cs b hoj) hQ hy h1
      have hfree' : ∀ k ok, ops[k]? = some ok → k ≠ i → (listed.setIfInBounds j true).getD k true = false →
          (∀ e ∈ ok.after, Region.binds md e = true → e.on ≠ i) → oi.apart ops ok = true := fun k ok hk hki hun hno => by
        refine hfree k ok hk hki ?_ hno
        by_cases hjk : j = k
        · subst hjk; exact hjun
        · rw [getD_set_ne true hjk] at hun; exact hun
      have hL' : ∀ k ∈ L, k ≠ i ∧ ((listed.setIfInBounds j true).getD k true = false → ∀ ok, ops[k]? = some ok → ∃ e ∈ ok.after, Region.binds md e = true ∧ e.on = i) := fun k hk => by
        refine ⟨(hL k hk).1, fun hun => (hL k hk).2 ?_⟩
        by_cases hjk : j = k
        · subst hjk; exact hjun
        · rw [getD_set_ne true hjk] at hun; exact hun
      refine wpOp_mono (fun a' w' h3 => ⟨h3.2.1, ih (listed.setIfInBounds j true) a' w' hfree' hL' (ready_mono hr (Ne.symm hji)) h3.1 (h3.2.1 hjL) ?_⟩) h2
      rw [Array.setIfInBounds_comm _ _ hji]
      exact h3.2.2
theorem anyE_take {i : Nat} {oi : Oper} {v : Value} {fuel : Nat} {listed : Array Bool} {a : Act} {w : World} (hi : ops[i]? = some oi)
    (hs : Region.noSelect ops = true) (hf : Region.free md ops listed i = true) (hl : waitsB md ops L listed i = true) (hr : (Region.ready md ops listed).contains i = true)
    (hQ : ∀ c a w, Q (.panic c) (a.put oi.dst v) w → Q (.panic c) a w) (hy : YieldsIf P ops S oi v a) (hS : S w)
    (h : wpAnyE P md ops Q S L fuel (listed.setIfInBounds i true) (a.put oi.dst v) w) : wpAnyE P md ops Q S L (fuel + 1) listed a w :=
  anyE_first hi (Region.noSelect_spec hs) hQ fuel listed a w (Region.free_spec hi hf) (fun j hj => by
    have := List.all_eq_true.1 hl j hj
    simp only [Bool.and_eq_true, Bool.or_eq_true, bne_iff_ne, ne_eq] at this
    refine ⟨this.1, fun hun oj hoj => ?_⟩
    rcases this.2 with h2 | h2
    · rw [hun] at h2; cases h2
    · rw [hoj] at h2
      obtain ⟨e, he, h3⟩ := Array.any_eq_true'.1 h2
      simp only [Bool.and_eq_true, beq_iff_eq] at h3
      exact ⟨e, he, h3⟩) (by simpa using hr) hy hS h

def readsE (md : Region.Mode) (ops : Array Oper) (L : List Nat) : List Nat → Array Bool → Bool
  | [], _ => true
  | i :: rest, listed => (Region.ready md ops listed).contains i && Region.free md ops listed i && waitsB md ops L listed i && readsE md ops L rest (listed.setIfInBounds i true)
theorem readsE_any {w : World} (hs : Region.noSelect ops = true) (hS : S w) (hQ : ∀ c d v a w, Q (.panic c) (Act.put a d v) w → Q (.panic c) a w) (fuel : Nat) : ∀ (idx : List Nat) (listed : Array Bool) (a : Act),
    readsE md ops L idx listed = true → Reads P ops S (fun a' => wpAnyE P md ops Q S L fuel (listedBy idx listed) a' w) (pick ops idx) a → wpAnyE P md ops Q S L (fuel + idx.length) listed a w
  | [], _, _, _, h => h
  | i :: rest, listed, a, hB, h => by
    simp only [readsE, Bool.and_eq_true] at hB
    obtain ⟨⟨⟨hr, hf⟩, hl⟩, hB'⟩ := hB
    cases ho : ops[i]? with
    | none =>
      have hm : i ∈ Region.ready md ops listed := by simpa using hr
      obtain ⟨_, oj, hoj, _⟩ := mem_ready.1 hm
      rw [ho] at hoj
      cases hoj
    | some o =>
      simp only [pick, ho] at h
      rw [List.length_cons, ← Nat.add_assoc]
      have go : ∀ v, YieldsIf P ops S o v a → Reads P ops S (fun a' => wpAnyE P md ops Q S L fuel (listedBy (i :: rest) listed) a' w) (pick ops rest) (a.put o.dst v) → wpAnyE P md ops Q S L (fuel + rest.length + 1) listed a w := fun v hy hk =>
        anyE_take (v := v) ho hs hf hl hr (fun c a w => hQ c o.dst v a w) hy hS (readsE_any hs hS hQ fuel rest _ _ hB' hk)
      rcases h with ⟨hw, v, hv, hk⟩ | ⟨hw, hk⟩
      · exact go v (.inl ⟨hw, hv⟩) hk
      · exact go undef (.inr ⟨hw, rfl⟩) hk
/-- A load whose value is known (a whole array, a whole struct). -/
theorem load_at {a : Act} {o : Oper} {w : World} {ty : TypeId} {q : Operand} {ad v : Value} (ho : o.op = .load ty q) (hq : a.eval q = ad) (h : (Instr.loadAt ty ad).run P w = .ok v w) : (execOp a.eval o).run P w = .ok (.value v) w := by
  unfold execOp
  simp only [ho, hq, Sem.run_bind, h, Result.andThen_ok, Sem.run_pure]
/-- A slice literal whose value is known. -/
theorem wp_lit {a : Act} {o : Oper} {w w' : World} {K : Act → World → Prop} {t : TypeId} {len : Nat} {parts : Array (Nat × Operand)} {vs : Array (Nat × Value)} {v : Value} (ho : o.op = .buildSlice t len parts) (hp : (parts.map fun x => (x.1, a.eval x.2)) = vs)
    (h : (Instr.buildSlice t len vs).run P w = .ok v w') (hK : K (a.put o.dst v) w') : o.wp P a w K Q := by
  subst hp
  unfold Oper.wp execOp
  simp only [ho, Sem.run_bind, h, Result.andThen_ok, Sem.run_pure]
  exact hK
theorem wp_lit0 {a : Act} {o : Oper} {w w' : World} {K : Act → World → Prop} {t : TypeId} {len : Nat} {v : Value} (ho : o.op = .buildSlice t len #[])
    (h : (Instr.buildSlice t len #[]).run P w = .ok v w') (hK : K (a.put o.dst v) w') : o.wp P a w K Q := wp_lit ho (by simp) h hK
theorem wp_lit1 {a : Act} {o : Oper} {w w' : World} {K : Act → World → Prop} {t : TypeId} {len i : Nat} {q : Operand} {u v : Value} (ho : o.op = .buildSlice t len #[(i, q)]) (hq : a.eval q = u)
    (h : (Instr.buildSlice t len #[(i, u)]).run P w = .ok v w') (hK : K (a.put o.dst v) w') : o.wp P a w K Q := wp_lit ho (by simp [hq]) h hK
/-- An operation that must come up now, not of L: S is shown behind it. -/
theorem actE {w : World} {fuel i : Nat} {listed : Array Bool} {a : Act} {o : Oper} (hi : ops[i]? = some o) (hr : Region.ready md ops listed = [i])
    (hw : Region.wanted o (yielded ops a.tmps) = true) (h : o.wp P a w (fun a' x => S x ∧ wpAnyE P md ops Q S L fuel (listed.setIfInBounds i true) a' x) Q) :
    wpAnyE P md ops Q S L (fuel + 1) listed a w := by
  refine ⟨fun h0 => by rw [hr] at h0; simp at h0, fun j hj => ?_⟩
  rw [hr, List.mem_singleton] at hj
  subst hj
  unfold wpOp
  simp only [hi, hw, if_true]
  exact .inl (Oper.wp_mono (fun a' x hx => ⟨fun _ => hx.1, hx.2⟩) h)
/-- Two that may come up now. -/
theorem actE2 {w : World} {fuel i j : Nat} {listed : Array Bool} {a : Act} {o p : Oper} (hi : ops[i]? = some o) (hj : ops[j]? = some p) (hr : Region.ready md ops listed = [i, j])
    (hw : Region.wanted o (yielded ops a.tmps) = true) (hv : Region.wanted p (yielded ops a.tmps) = true) (h : o.wp P a w (fun a' x => S x ∧ wpAnyE P md ops Q S L fuel (listed.setIfInBounds i true) a' x) Q)
    (k : p.wp P a w (fun a' x => S x ∧ wpAnyE P md ops Q S L fuel (listed.setIfInBounds j true) a' x) Q) :
    wpAnyE P md ops Q S L (fuel + 1) listed a w := by
  refine ⟨fun h0 => by rw [hr] at h0; simp at h0, fun n hn => ?_⟩
  rw [hr] at hn
  rcases List.mem_cons.1 hn with rfl | hn
  · unfold wpOp
    simp only [hi, hw, if_true]
    exact .inl (Oper.wp_mono (fun a' x hx => ⟨fun _ => hx.1, hx.2⟩) h)
  · rw [List.mem_singleton] at hn
    subst hn
    unfold wpOp
    simp only [hj, hv, if_true]
    exact .inl (Oper.wp_mono (fun a' x hx => ⟨fun _ => hx.1, hx.2⟩) k)
/-- One of L, that must come up now. -/
theorem lastE {w : World} {fuel i : Nat} {listed : Array Bool} {a : Act} {o : Oper} (hi : ops[i]? = some o) (hr : Region.ready md ops listed = [i]) (hL : i ∈ L)
    (hw : Region.wanted o (yielded ops a.tmps) = true) (h : o.wp P a w (fun a' x => wpAnyE P md ops Q S L fuel (listed.setIfInBounds i true) a' x) Q) :
    wpAnyE P md ops Q S L (fuel + 1) listed a w := by
  refine ⟨fun h0 => by rw [hr] at h0; simp at h0, fun j hj => ?_⟩
  rw [hr, List.mem_singleton] at hj
  subst hj
  unfold wpOp
  simp only [hi, hw, if_true]
  exact .inl (Oper.wp_mono (fun a' x hx => ⟨fun hn => absurd hL hn, hx⟩) h)
theorem doneE {listed : Array Bool} {a : Act} {w : World} (hr : Region.ready md ops listed = []) (h : Q .normal a w) : ∀ fuel, wpAnyE P md ops Q S L fuel listed a w
  | 0 => ⟨hr, h⟩
  | _ + 1 => ⟨fun _ => h, by rw [hr]; simp⟩
theorem beginE {id : Nat} (S : World → Prop) (L : List Nat) {a : Act} {w : World} (hm : P.follows .mixedOrders = true) (h : wpAnyE P .any ops (NoPanic Q) S L ops.size (Array.replicate ops.size false) a w.drew) : (Code.region id ops true).wp P Q a w :=
  wp_region_noPanic (wp_region_any hm (anyE_any _ _ _ _ h))
end
end Order
end Go.Proofs.Ytldacdpejncbnaa
