/-
  Layer 9, pure: a type of its own, that no other one names, changes nothing for the others.
  Layer 9: the wider configuration of LintMore in memory.
-/
import Derived.Test.YtopncohhagebbaaGreatDoorLgK
import Derived.Test.YtopncohhagebbaaGreatDoorLgN
namespace Go.Proofs.YtopncohhagebbaaGreatDoor
open Go.RowKit
namespace Lt
open Tr (Nd none0 size refs direct Rf)
open Gr (Al Rl Ty)
open Cn (gC gT gR gA)

def ownN : ByteArray := ⟨#[111, 119, 110]⟩
def ownR (nm : ByteArray) : Rl := ⟨ownN, [⟨nm, none0, false⟩], .mk 1 none0 none0 []⟩
def ownT (nm : ByteArray) : Ty := ⟨nm, [ownR nm]⟩
structure Apart (l : List Ty) (nm : ByteArray) : Prop where
  word : Tr.word nm = true
  name : ∀ t ∈ l, same t.name nm = false
  allow : ∀ t ∈ l, ∀ r ∈ t.rels, ∀ a ∈ r.allow, same a.ty nm = false
section
variable {l : List Ty} {nm : ByteArray}
theorem relT_own {ty r : ByteArray} (h : same nm ty = false) : relT (ownT nm) ty r = none := by rw [relT, if_neg]; show ¬ same nm ty = true; rw [h]; decide
theorem relC_old {ty r : ByteArray} (h : same nm ty = false) : relC (l ++ [ownT nm]) ty r = relC l ty r := by
  rw [relC_append, relC, relT_own h, relC]
  simp
theorem relC_none (h : ∀ t ∈ l, same t.name nm = false) {ty r : ByteArray} (ht : same ty nm = true) : relC l ty r = none := by
  induction l with
  | nil => rfl
  | cons t l ih =>
    have h1 := h t (by simp)
    rw [relC, ih fun x hx => h x (by simp [hx]), relT, if_neg]
    · rfl
    · rw [same_comm] at ht
      rw [← same_iff.1 ht, h1]; decide
theorem relC_own (h : ∀ t ∈ l, same t.name nm = false) : relC (l ++ [ownT nm]) nm ownN = some (ownR nm) := by
  have e : same (ownT nm).name nm = true := same_self nm
  rw [relC_append, relC_none h (same_self nm), relC, relT, if_pos e]
  show Option.or none (Option.or (List.find? (fun x => same x.name ownN) [ownR nm]) (relC [] nm ownN)) = _
  rw [List.find?_cons, show same (ownR nm).name ownN = true from same_self ownN]
  rfl
theorem typesP_mem : ∀ {m : List Al} {t : ByteArray}, t ∈ typesP m → ∃ a ∈ m, t = a.ty := by
  have key : ∀ (m : List Al) (out : List ByteArray) (t : ByteArray), t ∈ m.foldl addT out → t ∈ out ∨ ∃ a ∈ m, t = a.ty := by
    intro m
    induction m with
    | nil => intro out t h; exact .inl h
    | cons a m ih =>
      intro out t h
      rw [List.foldl_cons] at h
      rcases ih _ _ h with h | ⟨b, hb, e⟩
      · rw [addT] at h
        split at h
        · exact .inl h
        · rcases List.mem_append.1 h with h | h
          · exact .inl h
          · rw [List.mem_singleton] at h
            exact .inr ⟨a, by simp, h⟩
      · exact .inr ⟨b, by simp [hb], e⟩
  intro m t h
  rcases key m [] t h with h | h
  · cases h
  · exact h
theorem has_old {ty r : ByteArray} (h : same nm ty = false) : has (l ++ [ownT nm]) ty r = has l ty r := by rw [has, has, relC_old h]
theorem any_old {ty : ByteArray} (h : same nm ty = false) : ((l ++ [ownT nm]).any fun t => same t.name ty) = l.any fun t => same t.name ty := by
  rw [List.any_append, List.any_cons, List.any_nil]
  show (_ || (same nm ty || false)) = _
  rw [h]; simp
variable (A : Apart l nm)
include A
theorem allowedP_old {t : Ty} (ht : t ∈ l) {r : Rl} (hr : r ∈ t.rels) : allowedP (l ++ [ownT nm]) r = allowedP l r := by
  have key : ∀ a ∈ r.allow, lost (l ++ [ownT nm]) a = lost l a := fun a ha => by
    have h1 := A.allow t ht r hr a ha
    rw [same_comm] at h1
    rw [lost, lost, any_old h1, has_old h1]
  have : r.allow.any (lost (l ++ [ownT nm])) = r.allow.any (lost l) := by
    rw [Bool.eq_iff_iff, List.any_eq_true, List.any_eq_true]
    constructor
    · rintro ⟨a, ha, h⟩; exact ⟨a, ha, by rw [← key a ha]; exact h⟩
    · rintro ⟨a, ha, h⟩; exact ⟨a, ha, by rw [key a ha]; exact h⟩
  rw [allowedP, allowedP, this]
theorem name_old {t : Ty} (ht : t ∈ l) : same nm t.name = false := by rw [same_comm]; exact A.name t ht
theorem via_types {ty via : ByteArray} {v : Rl} (h : relC l ty via = some v) : ∀ t ∈ typesP v.allow, same nm t = false := fun t ht => by
  obtain ⟨t', h1, h2⟩ := relC_mem h
  obtain ⟨a, ha, rfl⟩ := typesP_mem ht
  rw [same_comm]
  exact A.allow t' h1 v h2 a ha
theorem refP_old {t : Ty} (ht : t ∈ l) (x : Rf) : refP (l ++ [ownT nm]) t.name x = refP l t.name x := by
  have h1 := name_old A ht
  rw [refP, refP, has_old h1, relC_old h1]
  split
  · rfl
  · cases hv : relC l t.name x.via with
    | none => rfl
    | some v =>
      simp only
      have : ((typesP v.allow).all fun u => has (l ++ [ownT nm]) u x.rel) = (typesP v.allow).all fun u => has l u x.rel := by
        rw [Bool.eq_iff_iff, List.all_eq_true, List.all_eq_true]
        constructor
        · intro h u hu; rw [← has_old (nm := nm) (via_types A hv u hu)]; exact h u hu
        · intro h u hu; rw [has_old (via_types A hv u hu)]; exact h u hu
      rw [this]
omit A in
theorem first_congr' {α : Type} {f g : α → Int} {m : List α} (h : ∀ a ∈ m, f a = g a) : first f m = first g m := by
  induction m with
  | nil => rfl
  | cons a m ih => rw [first, first, h a (by simp), ih fun x hx => h x (by simp [hx])]
theorem relP_old {t : Ty} (ht : t ∈ l) (i : Nat) {r : Rl} (hr : r ∈ t.rels) : relP (l ++ [ownT nm]) t i r = relP l t i r := by
  rw [relP, relP, allowedP_old A ht hr, first_congr' (g := refP l t.name) fun x _ => refP_old A ht x]
theorem relsP_old {t : Ty} (ht : t ∈ l) : ∀ (m : List Rl) (i : Nat), (∀ r ∈ m, r ∈ t.rels) → relsP (l ++ [ownT nm]) t i m = relsP l t i m := by
  intro m
  induction m with
  | nil => intro i _; rfl
  | cons r m ih =>
    intro i h
    rw [relsP, relsP, relP_old A ht i (h r (by simp)), ih (i + 1) fun x hx => h x (by simp [hx])]
theorem typeP_old {t : Ty} (ht : t ∈ l) {i : Nat} (hi : i ≤ l.length) : typeP (l ++ [ownT nm]) i t = typeP l i t := by
  rw [typeP, typeP, relsP_old A ht t.rels 0 (fun _ h => h), List.take_append_of_le_length hi]
theorem own_fine : (typeP (l ++ [ownT nm]) l.length (ownT nm)).2.2 = 0 := by
  have h0 : (l.any fun x => same x.name nm) = false := by
    rw [List.any_eq_false]
    intro t ht
    rw [A.name t ht]; decide
  have h1 : lost (l ++ [ownT nm]) ⟨nm, none0, false⟩ = false := by
    have : ((l ++ [ownT nm]).any fun t => same t.name nm) = true := List.any_eq_true.2 ⟨ownT nm, by simp, same_self nm⟩
    rw [lost, this]
    show (!true || (!none0.toList.isEmpty && !has (l ++ [ownT nm]) nm none0)) = false
    rw [Lib.toList_data]
    rfl
  have h2 : allowedP (l ++ [ownT nm]) (ownR nm) = 0 := by
    rw [allowedP, if_neg]
    show ¬ ([⟨nm, none0, false⟩].any (lost (l ++ [ownT nm])) = true)
    rw [List.any_cons, h1]; simp
  have h3 : relP (l ++ [ownT nm]) (ownT nm) 0 (ownR nm) = 0 := by
    rw [relP, h2]
    have h4 : (direct (ownR nm).expr false false || direct (ownR nm).expr true false) = true := rfl
    rw [h4, if_neg (by simp [ownR]), if_neg (by simp), if_neg (by simp [ownR, twice]), if_neg (by simp [ownR]), if_neg (by simp)]
    rfl
  rw [typeP, if_neg (by simp [ownT]), if_neg (by rw [List.take_left' rfl]; show ¬ (l.any fun x => same x.name nm) = true; rw [h0]; decide)]
  show (relsP (l ++ [ownT nm]) (ownT nm) 0 [ownR nm]).2.2 = 0
  rw [relsP, h3, if_neg (by simp), relsP]
omit A in
theorem typesW_more : ∀ (m : List Ty) (i : Nat), (∀ t ∈ m, t ∈ l) → i + m.length ≤ l.length → Apart l nm →
    typesW (l ++ [ownT nm]) i (m ++ [ownT nm]) = if (typesW l i m).2.2 ≠ 0 then typesW l i m else typesW (l ++ [ownT nm]) (i + m.length) [ownT nm] := by
  intro m
  induction m with
  | nil => intro i _ _ _; rw [typesW, if_neg (by simp)]; rfl
  | cons t m ih =>
    intro i hm hi A
    rw [List.length_cons] at hi
    rw [List.cons_append, typesW, typesW, typeP_old A (hm t (by simp)) (by omega), ih (i + 1) (fun x hx => hm x (by simp [hx])) (by omega) A, List.length_cons]
    by_cases h : (typeP l i t).2.2 ≠ 0
    · rw [if_pos h, if_pos h, if_pos h]
    · rw [if_neg h, if_neg h, show i + 1 + m.length = i + (m.length + 1) by omega]
theorem namesP_more (h6 : l.length < 6) : ((namesP l).2.2 ≠ 0 → namesP (l ++ [ownT nm]) = namesP l) ∧ ((namesP l).2.2 = 0 → (namesP (l ++ [ownT nm])).2.2 = 0) := by
  have e : namesP (l ++ [ownT nm]) = if (typesW l 0 l).2.2 ≠ 0 then typesW l 0 l else (none0, none0, 0) := by
    have hT : typesW (l ++ [ownT nm]) l.length [ownT nm] = (none0, none0, 0) := by rw [typesW, if_neg (by rw [own_fine A]; simp), typesW]
    rw [namesP, if_neg (by rw [List.length_append, List.length_singleton]; omega), typesW_more l 0 (fun _ h => h) (by omega) A, Nat.zero_add, hT]
  have e2 : namesP l = typesW l 0 l := by rw [namesP, if_neg (by omega)]
  rw [e, e2]
  constructor
  · intro h; rw [if_pos h]
  · intro h; rw [if_neg (by simpa using h)]
theorem gC_more : gC (l ++ [ownT nm]) = gC l := by
  have h1 : gT (ownT nm) = true := by
    have h2 : gR (ownR nm) = true := by
      have h3 : gA ⟨nm, none0, false⟩ = true := by
        rw [gA, A.word]; rfl
      rw [gR, Bool.and_eq_true, Bool.and_eq_true]
      refine ⟨⟨show Tr.word ownN = true by decide +kernel, show (Tr.errOf (.mk 1 none0 none0 []) == 0) = true by decide +kernel⟩, ?_⟩
      show List.all [⟨nm, none0, false⟩] gA = true
      rw [List.all_cons, h3]; rfl
    rw [gT, Bool.and_eq_true]
    refine ⟨A.word, ?_⟩
    show List.all [ownR nm] gR = true
    rw [List.all_cons, h2]; rfl
  rw [gC, gC, List.all_append, List.all_cons, h1]
  simp
omit A in
theorem items_more : items (l ++ [ownT nm]) = items l ++ [(nm, ownN)] := by
  rw [items, List.flatMap_append]
  rfl
theorem items_apart {a : It} (h : a ∈ items l) : same nm a.1 = false ∧ same a.1 nm = false := by
  rw [items, List.mem_flatMap] at h
  obtain ⟨t, ht, ha⟩ := h
  rw [itemsT, List.mem_map] at ha
  obtain ⟨r, -, rfl⟩ := ha
  exact ⟨name_old A ht, A.name t ht⟩
theorem getD_apart (ty r : ByteArray) : ∀ a ∈ ((relC l ty r).getD zR).allow, same a.ty nm = false := by
  intro a ha
  cases h : relC l ty r with
  | none => rw [h] at ha; cases ha
  | some v =>
    rw [h] at ha
    obtain ⟨t, h1, h2⟩ := relC_mem h
    exact A.allow t h1 v h2 a ha
theorem hangs_old {a b : It} (ha : a ∈ items l) (odd : Bool) : hangs (l ++ [ownT nm]) a b odd = hangs l a b odd := by
  have h1 := (items_apart A ha).1
  have h2 : refTo (l ++ [ownT nm]) a b odd = refTo l a b odd := by
    funext x
    rw [refTo, refTo, viaTo, viaTo, relC_old h1]
  rw [hangs, hangs, relC_old h1, h2]
theorem hangs_to {a : It} (ha : a ∈ items l) (odd : Bool) : hangs (l ++ [ownT nm]) a (nm, ownN) odd = false := by
  have h1 := items_apart A ha
  rw [hangs_old A ha, hangs]
  have h2 : (((relC l a.1 a.2).getD zR).allow.any fun x => allowTo x (nm, ownN)) = false := by
    rw [List.any_eq_false]
    intro x hx
    rw [allowTo, getD_apart A a.1 a.2 x hx]
    simp
  have h3 : (refs ((relC l a.1 a.2).getD zR).expr false).any (refTo l a (nm, ownN) odd) = false := by
    rw [List.any_eq_false]
    intro x _
    have h4 : viaTo l a (nm, ownN) x = false := by
      rw [viaTo]
      split
      · exact h1.1
      · rw [List.any_eq_false]
        intro t ht
        obtain ⟨y, hy, rfl⟩ := typesP_mem ht
        show ¬ same y.ty nm = true
        rw [getD_apart A a.1 x.via y hy]; decide
    rw [refTo, h4, Bool.and_false]; decide
  rw [h2, h3, Bool.false_and, Bool.false_or]
theorem hangs_from {b : It} (hb : b ∈ items l ∨ b = (nm, ownN)) (odd : Bool) : hangs (l ++ [ownT nm]) (nm, ownN) b odd = false := by
  have h0 : (relC (l ++ [ownT nm]) nm ownN).getD zR = ownR nm := by rw [relC_own A.name]; rfl
  rw [hangs, h0]
  have h1 : allowTo ⟨nm, none0, false⟩ b = false := by
    rw [allowTo]
    rcases hb with hb | rfl
    · show (same nm b.1 && _) = false
      rw [(items_apart A hb).1, Bool.false_and]
    · show (_ && same none0 ownN) = false
      rw [show same none0 ownN = false from by rw [same, Lib.toList_data, Lib.toList_data]; decide, Bool.and_false]
  show ((List.any [⟨nm, none0, false⟩] (fun x => allowTo x b) && _) || List.any [] _) = false
  rw [List.any_cons, h1]
  simp
theorem edge_old {i k : Nat} (hi : i < (items l).length) (hk : k < (items l).length) : edge (l ++ [ownT nm]) i k = edge l i k := by
  rw [edge, edge, items_more, List.getElem?_append_left hi, List.getElem?_append_left hk, List.getElem?_eq_getElem hi, List.getElem?_eq_getElem hk]
  simp only
  rw [edgeI, edgeI, hangs_old A (List.getElem_mem hi), hangs_old A (List.getElem_mem hi)]
theorem edge_to {i : Nat} (hi : i ≤ (items l).length) : edge (l ++ [ownT nm]) i (items l).length = -1 := by
  have h1 : (items l ++ [(nm, ownN)])[(items l).length]? = some (nm, ownN) := by rw [List.getElem?_append_right (Nat.le_refl _), Nat.sub_self]; rfl
  rw [edge, items_more, h1]
  by_cases h : i < (items l).length
  · rw [List.getElem?_append_left h, List.getElem?_eq_getElem h]
    simp only
    rw [edgeI, hangs_to A (List.getElem_mem h), hangs_to A (List.getElem_mem h), if_neg (by decide), if_neg (by decide)]
  · obtain rfl : i = (items l).length := by omega
    rw [h1]
    simp only
    rw [edgeI, hangs_from A (.inr rfl), hangs_from A (.inr rfl), if_neg (by decide), if_neg (by decide)]
theorem edge_from {k : Nat} (hk : k < (items l).length) : edge (l ++ [ownT nm]) (items l).length k = -1 := by
  have h1 : (items l ++ [(nm, ownN)])[(items l).length]? = some (nm, ownN) := by rw [List.getElem?_append_right (Nat.le_refl _), Nat.sub_self]; rfl
  rw [edge, items_more, h1, List.getElem?_append_left hk, List.getElem?_eq_getElem hk]
  simp only
  rw [edgeI, hangs_from A (.inl (List.getElem_mem hk)), hangs_from A (.inl (List.getElem_mem hk)), if_neg (by decide), if_neg (by decide)]
omit A in
theorem way_more {n : Nat} {e e' : Nat → Nat → Int} (h1 : ∀ i, i < n → ∀ k, k < n → e' i k = e i k) (h2 : ∀ i, i ≤ n → e' i n = -1) (h3 : ∀ k, k < n → e' n k = -1) {i k : Nat} {L : List Nat} : Way (n + 1) e' i k L ↔ Way n e i k L := by
  have low : ∀ {i k : Nat}, i < n + 1 → k < n + 1 → 0 ≤ e' i k → i < n ∧ k < n := fun {i k} hi hk h0 => by
    have hkn : k ≠ n := fun e1 => by subst e1; have := h2 i (by omega); omega
    have hin : i ≠ n := fun e1 => by subst e1; have := h3 k (by omega); omega
    omega
  constructor
  · intro h
    induction h with
    | even hi hk h => obtain ⟨a, b⟩ := low hi hk (by omega); exact .even a b (by rw [← h1 _ a _ b]; exact h)
    | odd hi hk h => obtain ⟨a, b⟩ := low hi hk (by omega); exact .odd a b (by rw [← h1 _ a _ b]; exact h)
    | join _ _ a b => exact .join a b
  · intro h
    induction h with
    | even hi hk h => exact .even (by omega) (by omega) (by rw [h1 _ hi _ hk]; exact h)
    | odd hi hk h => exact .odd (by omega) (by omega) (by rw [h1 _ hi _ hk]; exact h)
    | join _ _ a b => exact .join a b
theorem CheckOut.more (h6 : l.length < 6) {S : Nat → Int} {t r : ByteArray} {code : Int} {its : List It} (h : CheckOut l S t r code its) :
    CheckOut (l ++ [ownT nm]) (fun i => if i < its.length then S i else 0) t r code (if code = 0 then its ++ [(nm, ownN)] else its) := by
  have hw : ∀ {i k : Nat} {L : List Nat}, Way ((items l).length + 1) (edge (l ++ [ownT nm])) i k L ↔ Way (items l).length (edge l) i k L :=
    way_more (fun i hi k hk => edge_old A hi hk) (fun i hi => edge_to A hi) (fun k hk => edge_from A hk)
  have hl : (items (l ++ [ownT nm])).length = (items l).length + 1 := by rw [items_more, List.length_append, List.length_singleton]
  have hr : ∀ i, Rnd ((items l).length + 1) (edge (l ++ [ownT nm])) i ↔ Rnd (items l).length (edge l) i := fun i =>
    ⟨fun ⟨L, a, b⟩ => ⟨L, hw.1 a, b⟩, fun ⟨L, a, b⟩ => ⟨L, hw.2 a, b⟩⟩
  have hn := namesP_more A h6
  unfold CheckOut
  rw [gC_more A, hl]
  rcases h with ⟨a1, a2, a3, a4, a5⟩ | ⟨a1, a2, a3, a4, a5, a6⟩ | ⟨a1, a2, a3, a4, i, a, a5, a6, a7, a8, a9⟩ | ⟨a1, a2, a3, a4, a5, a6, a7, a8⟩
  · exact .inl ⟨a1, by rw [a5, if_neg (by decide)]; exact a2, a3, a4, a5⟩
  · refine .inr (.inl ⟨a1, by rw [hn.1 a2]; exact a2, ?_, by rw [hn.1 a2]; exact a4, by rw [hn.1 a2]; exact a5, by rw [hn.1 a2]; exact a6⟩)
    rw [if_neg (by rw [a6]; exact a2)]
    exact a3
  · refine .inr (.inr (.inl ⟨a1, hn.2 a2, by rw [a4, if_neg (by decide)]; exact a3, a4, i, a, ?_, a6, a7, (hr i).2 a8, fun j hj hh => a9 j hj ((hr j).1 hh)⟩))
    rw [items_more, List.getElem?_append_left (List.getElem?_eq_some_iff.1 a5).1]
    exact a5
  · refine .inr (.inr (.inr ⟨a1, hn.2 a2, by rw [if_pos a4, a3, items_more], a4, a5, a6, fun i hi hh => ?_, fun i hi => ?_⟩))
    · have h1 := (hr i).1 hh
      by_cases h : i < (items l).length
      · exact a7 i h h1
      · obtain ⟨L, h2, -⟩ := h1
        exact h h2.lt.1
    · rw [a3]
      by_cases h : i < (items l).length
      · obtain ⟨s, h1, h2, h3⟩ := a8 i h
        refine ⟨s, by simp only [if_pos h]; exact h1, fun k L hk => h2 k L (hw.1 hk), ?_⟩
        rcases h3 with h3 | ⟨k, L, h4, h5⟩
        · exact .inl h3
        · exact .inr ⟨k, L, hw.2 h4, h5⟩
      · refine ⟨0, by simp only [if_neg h]; rfl, fun k L hk => ?_, .inl rfl⟩
        exact absurd (hw.1 hk).lt.1 h
end
end Lt
end Go.Proofs.YtopncohhagebbaaGreatDoor

namespace Go.Proofs.YtopncohhagebbaaGreatDoor
open Go.RowKit
namespace Lt
open Tr (Nd IsNode node4 none0 size RowAt IsElem own_slice own_below)
open Gr (Al Rl Ty IsAl IsRl IsTy IsCf Lies alV relV tyV tAl tRl tTy tCf cellsV)
open Knot (Turns NewRow)

theorem cellsV_size {c : Nat} : ∀ {vs : List Value}, (∀ v ∈ vs, v.cells.size = c) → (cellsV vs).length = vs.length * c
  | [], _ => by simp [cellsV]
  | v :: vs, h => by
    have ih := cellsV_size (vs := vs) fun x hx => h x (by simp [hx])
    have h1 := h v (by simp)
    rw [cellsV] at ih ⊢
    rw [List.flatMap_cons, List.length_append, ih, Array.length_toList, h1, List.length_cons, Nat.add_mul, Nat.one_mul]
    omega
end Lt
end Go.Proofs.YtopncohhagebbaaGreatDoor
