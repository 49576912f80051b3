/-
  Layer 11, pure: what fits is known, and fits where more is allowed.
-/
import Derived.Test.YtopncohhagebbaaGreatDoorLoQ
import Derived.Test.YtopncohhagebbaaGreatDoorLgA
namespace Go.Proofs.YtopncohhagebbaaGreatDoor
open Go.RowKit
namespace Lo
open Tr (Nd none0)
open Gr (Al Rl Ty)
open Cn (ShortC ShortR)
open Who (bs bs_self bs_list kind nameB_len)
open Bond (L3 kind3 goodB)
open Lt (same same_iff same_self relC relT zR)

/-! ### where more is allowed -/
def wideR (m : Al) (r : Rl) : Rl := ⟨r.name, m :: r.allow, r.expr⟩
def wideT (ty : ByteArray) (m : Al) (t : Ty) : Ty := if same t.name ty then ⟨t.name, t.rels.map (wideR m)⟩ else t
theorem wideT_name (ty : ByteArray) (m : Al) (t : Ty) : (wideT ty m t).name = t.name := by rw [wideT]; split <;> rfl
theorem hasT_wide (ty : ByteArray) (m : Al) (a : ByteArray) : ∀ l : List Ty, hasT (l.map (wideT ty m)) a = hasT l a
  | [] => rfl
  | t :: l => by
    have ih := hasT_wide ty m a l
    unfold hasT at ih ⊢
    rw [List.map_cons, List.any_cons, List.any_cons, ih, wideT_name]
theorem find_wide (m : Al) (rl : ByteArray) : ∀ l : List Rl, (l.map (wideR m)).find? (fun x => same x.name rl) = (l.find? fun x => same x.name rl).map (wideR m)
  | [] => rfl
  | r :: l => by
    rw [List.map_cons, List.find?_cons, List.find?_cons, show (wideR m r).name = r.name from rfl]
    cases same r.name rl with
    | true => rfl
    | false => exact find_wide m rl l
theorem relT_wide (ty : ByteArray) (m : Al) (rl : ByteArray) (t : Ty) : relT (wideT ty m t) ty rl = (relT t ty rl).map (wideR m) := by
  rw [relT, relT, wideT_name]
  split
  · rename_i h
    rw [wideT, if_pos h]
    exact find_wide m rl t.rels
  · rfl
theorem relC_wide (ty : ByteArray) (m : Al) (rl : ByteArray) : ∀ l : List Ty, relC (l.map (wideT ty m)) ty rl = (relC l ty rl).map (wideR m)
  | [] => rfl
  | t :: l => by
    rw [List.map_cons, relC, relC, relT_wide, relC_wide ty m rl l]
    cases relT t ty rl <;> rfl
theorem fit_wide {l : List Ty} {p : L3 × L3} (m : Al) (h : fitB l p = 0) : fitB (l.map (wideT (bs p.1.1) m)) p = 0 := by
  unfold fitB at h ⊢
  rw [hasT_wide, relC_wide]
  cases hg : goodB p.1 p.2 with
  | false => rw [hg] at h; cases h
  | true =>
    rw [hg] at h
    cases hr : relC l (bs p.1.1) (bs p.1.2.2) with
    | none => rw [hr] at h; cases h
    | some r =>
      rw [hr] at h
      cases ht : hasT l (bs p.2.1) with
      | false => rw [ht] at h; cases h
      | true =>
        rw [ht] at h
        have ha : r.allow.any (okB p.2) = true := by
          cases hx : r.allow.any (okB p.2) with
          | true => rfl
          | false =>
            rw [Option.getD_some, hx] at h
            cases h
        rw [Option.map_some, Option.getD_some, show (wideR m r).allow = m :: r.allow from rfl, List.any_cons, ha, Bool.or_true]
        rfl

/-! ### what fits is known -/
theorem fit_parts {l : List Ty} {p : L3 × L3} (h : fitP l p = 0) : goodB p.1 p.2 = true ∧ hasT l (bs p.2.1) = true ∧ ∃ r, relC l (bs p.1.1) (bs p.1.2.2) = some r ∧ r.allow.any (okA p.2) = true := by
  unfold fitP at h
  cases hg : goodB p.1 p.2 with
  | false => rw [hg] at h; cases h
  | true =>
    rw [hg] at h
    cases hr : relC l (bs p.1.1) (bs p.1.2.2) with
    | none => rw [hr] at h; cases h
    | some r =>
      rw [hr] at h
      cases ht : hasT l (bs p.2.1) with
      | false => rw [ht] at h; cases h
      | true =>
        rw [ht] at h
        refine ⟨rfl, rfl, r, rfl, ?_⟩
        cases hx : r.allow.any (okA p.2) with
        | true => rfl
        | false =>
          rw [Option.getD_some, hx] at h
          cases h
theorem known_of_fit {l : List Ty} {p : L3 × L3} (hs : Sound l) (h : fitP l p = 0) (hk : kind3 p.2 ≠ 3) : knownP l (bs p.1.1) (bs p.1.2.1) (bs p.1.2.2) p.2 = 0 := by
  obtain ⟨hg, ht, r, hr, ha⟩ := fit_parts h
  have hg2 := hg
  unfold goodB at hg2
  simp only [Bool.and_eq_true] at hg2
  obtain ⟨⟨⟨g1, g2⟩, g3⟩, g4⟩ := hg2
  have g4 : 0 < kind3 p.2 := of_decide_eq_true g4
  have hk3 : kind3 p.2 ≤ 3 := Who.kind_le _ _ _
  unfold knownP
  simp only [bs_list]
  rw [g1, g2, g3, hr, ht]
  have hc : kind3 p.2 = 1 ∨ kind3 p.2 = 2 := by omega
  rcases hc with hc | hc
  · rw [hc]; rfl
  · have hu : (relC l (bs p.2.1) (bs p.2.2.2)).isSome = true := by
      obtain ⟨a, ha1, ha2⟩ := List.any_eq_true.1 ha
      obtain ⟨t, htl, hrt⟩ := relC_mem hr
      obtain ⟨i, hi, rfl⟩ := List.getElem_of_mem hrt
      have hz := (Lt.relP_zero ((Lt.fine_of hs.good.2).rel t htl i hi)).2.2.1
      rw [List.any_eq_false] at hz
      have hl := hz a ha1
      rw [okA, Bool.and_eq_true, Bool.and_eq_true] at ha2
      have e1 : a.ty = bs p.2.1 := same_iff.1 ha2.1
      have e2 : a.rel = bs p.2.2.2 := same_iff.1 ha2.2.1
      rw [Lt.lost] at hl
      simp only [Bool.or_eq_true, not_or] at hl
      have hne : a.rel.toList.isEmpty = false := by
        have hn := (Bond.kind_set.1 (show Who.kind p.2.1 p.2.2.1 p.2.2.2 = 2 from hc)).2.2
        have := (nameB_len hn).1
        rw [e2, Lib.toList_data, bs_list]
        cases h : p.2.2.2 with
        | nil => rw [h] at this; simp at this
        | cons => rfl
      rw [hne] at hl
      have h2 := hl.2
      rw [e2, e1] at h2
      exact Option.isSome_iff_ne_none.2 (by simpa [Lt.has] using h2)
    rw [hc, hu]; rfl

/-! ### a list that turns into another, one by one -/
def mix {α : Type} (f : α → α) (l : List α) (j : Nat) : List α := (l.take j).map f ++ l.drop j
section
variable {α : Type} {f : α → α} {l : List α} {j : Nat}
theorem mix_len (f : α → α) (l : List α) (j : Nat) : (mix f l j).length = l.length := by
  rw [mix, List.length_append, List.length_map, List.length_take, List.length_drop]; omega
theorem mix_zero : mix f l 0 = l := by simp [mix]
theorem mix_all : mix f l l.length = l.map f := by simp [mix]
theorem mix_at (hj : j < l.length) : (mix f l j)[j]? = some l[j] := by
  rw [mix, List.getElem?_append_right (by rw [List.length_map, List.length_take]; omega), List.length_map, List.length_take, Nat.min_eq_left (by omega), Nat.sub_self, List.drop_eq_getElem_cons hj]
  rfl
theorem mix_next (hj : j < l.length) : mix f l (j + 1) = (mix f l j).set j (f l[j]) := by
  rw [mix, mix, List.set_append_right _ _ (by rw [List.length_map, List.length_take]; omega), List.length_map, List.length_take, Nat.min_eq_left (by omega), Nat.sub_self, List.drop_eq_getElem_cons hj, List.set_cons_zero, List.take_succ_eq_append_getElem hj, List.map_append, List.append_assoc]
  rfl
theorem mix_same (hj : j < l.length) (h : f l[j] = l[j]) : mix f l (j + 1) = mix f l j := by
  rw [mix_next hj, h]
  refine List.ext_getElem? fun i => ?_
  by_cases e : j = i
  · subst e
    rw [List.getElem?_set_self (by rw [mix_len]; exact hj), mix_at hj]
  · rw [List.getElem?_set_ne e]
end
theorem short_wide {l : List Ty} {ty : ByteArray} {m : Al} (hs : ShortC l) (h1 : m.ty.size ≤ maxLen) (h2 : m.rel.size ≤ maxLen) : ShortC (l.map (wideT ty m)) := fun t ht => by
  obtain ⟨u, hu, rfl⟩ := List.mem_map.1 ht
  obtain ⟨a1, a2⟩ := hs u hu
  rw [wideT]
  split
  · refine ⟨a1, fun r hr => ?_⟩
    obtain ⟨q, hq, rfl⟩ := List.mem_map.1 hr
    obtain ⟨b1, b2⟩ := a2 q hq
    refine ⟨b1, fun a ha => ?_⟩
    rcases List.mem_cons.1 ha with rfl | ha
    · exact ⟨h1, h2⟩
    · exact b2 a ha
  · exact ⟨a1, a2⟩
theorem long_wide {l : List Ty} {ty : ByteArray} {m : Al} {n : Nat} (h : ∀ t ∈ l, ∀ r ∈ t.rels, r.allow.length ≤ n) : ∀ t ∈ l.map (wideT ty m), ∀ r ∈ t.rels, r.allow.length ≤ n + 1 := fun t ht r hr => by
  obtain ⟨u, hu, rfl⟩ := List.mem_map.1 ht
  rw [wideT] at hr
  split at hr
  · obtain ⟨q, hq, rfl⟩ := List.mem_map.1 hr
    have := h u hu q hq
    show q.allow.length + 1 ≤ n + 1
    omega
  · have := h u hu r hr
    omega
end Lo
end Go.Proofs.YtopncohhagebbaaGreatDoor
