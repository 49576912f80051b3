/-
  Layer 9, pure: a type of its own, that no other one names, changes nothing for the others.
  Layer 9: the wider configuration of LintMore in memory.
  Layer 9: the statement LintMore, walked upon what the program's Check is to answer.
  Layer 9: the statement LintMore, walked upon what the program's Check is to answer.
  Layer 9: LintMore's walk, upon the program's own Check.
-/
import Derived.Test.YticcldohgbpcbaaGreatDoorLgK
import Derived.Test.YticcldohgbpcbaaGreatDoorLgN
import Derived.Test.YticcldohgbpcbaaGreatDoorRWord
import Derived.Test.YticcldohgbpcbaaGreatDoorLyCheck
namespace Go.Proofs.YticcldohgbpcbaaGreatDoor
open Go.RowKit
namespace Lt
open Tr (Nd none0 size refs direct Rf)
open Gr (Al Rl Ty)
open Cn (gC gT gR gA)

def ownN : ByteArray := ⟨#[111, 119, 110]⟩
def ownR (nm : ByteArray) : Rl := ⟨ownN, [⟨nm, none0, false⟩], .mk 1 none0 none0 []⟩
def ownT (nm : ByteArray) : Ty := ⟨nm, [ownR nm]⟩
/-- Nobody names it. -/
structure Apart (l : List Ty) (nm : ByteArray) : Prop where
  word : Tr.word nm = true
  name : ∀ t ∈ l, same t.name nm = false
  allow : ∀ t ∈ l, ∀ r ∈ t.rels, ∀ a ∈ r.allow, same a.ty nm = false
section
variable {l : List Ty} {nm : ByteArray}
theorem relT_own {ty r : ByteArray} (h : same nm ty = false) : relT (ownT nm) ty r = none := by rw [relT, if_neg]; show ¬ same nm ty = true; rw [h]; decide
theorem relC_old {ty r : ByteArray} (h : same nm ty = false) : relC (l ++ [ownT nm]) ty r = relC l ty r := by
  rw [relC_append, relC, relT_own h, relC]
  simp
theorem relC_none (h : ∀ t ∈ l, same t.name nm = false) {ty r : ByteArray} (ht : same ty nm = true) : relC l ty r = none := by
  induction l with
  | nil => rfl
  | cons t l ih =>
    have h1 := h t (by simp)
    rw [relC, ih fun x hx => h x (by simp [hx]), relT, if_neg]
    · rfl
    · rw [same_comm] at ht
      rw [← same_iff.1 ht, h1]; decide
theorem relC_own (h : ∀ t ∈ l, same t.name nm = false) : relC (l ++ [ownT nm]) nm ownN = some (ownR nm) := by
  have e : same (ownT nm).name nm = true := same_self nm
  rw [relC_append, relC_none h (same_self nm), relC, relT, if_pos e]
  show Option.or none (Option.or (List.find? (fun x => same x.name ownN) [ownR nm]) (relC [] nm ownN)) = _
  rw [List.find?_cons, show same (ownR nm).name ownN = true from same_self ownN]
  rfl
theorem typesP_mem : ∀ {m : List Al} {t : ByteArray}, t ∈ typesP m → ∃ a ∈ m, t = a.ty := by
  have key : ∀ (m : List Al) (out : List ByteArray) (t : ByteArray), t ∈ m.foldl addT out → t ∈ out ∨ ∃ a ∈ m, t = a.ty := by
    intro m
    induction m with
    | nil => intro out t h; exact .inl h
    | cons a m ih =>
      intro out t h
      rw [List.foldl_cons] at h
      rcases ih _ _ h with h | ⟨b, hb, e⟩
      · rw [addT] at h
        split at h
        · exact .inl h
        · rcases List.mem_append.1 h with h | h
          · exact .inl h
          · rw [List.mem_singleton] at h
            exact .inr ⟨a, by simp, h⟩
      · exact .inr ⟨b, by simp [hb], e⟩
  intro m t h
  rcases key m [] t h with h | h
  · cases h
  · exact h
theorem has_old {ty r : ByteArray} (h : same nm ty = false) : has (l ++ [ownT nm]) ty r = has l ty r := by rw [has, has, relC_old h]
theorem any_old {ty : ByteArray} (h : same nm ty = false) : ((l ++ [ownT nm]).any fun t => same t.name ty) = l.any fun t => same t.name ty := by
  rw [List.any_append, List.any_cons, List.any_nil]
  show (_ || (same nm ty || false)) = _
  rw [h]; simp
variable (A : Apart l nm)
include A
theorem allowedP_old {t : Ty} (ht : t ∈ l) {r : Rl} (hr : r ∈ t.rels) : allowedP (l ++ [ownT nm]) r = allowedP l r := by
  have key : ∀ a ∈ r.allow, lost (l ++ [ownT nm]) a = lost l a := fun a ha => by
    have h1 := A.allow t ht r hr a ha
    rw [same_comm] at h1
    rw [lost, lost, any_old h1, has_old h1]
  have : r.allow.any (lost (l ++ [ownT nm])) = r.allow.any (lost l) := by
    rw [Bool.eq_iff_iff, List.any_eq_true, List.any_eq_true]
    constructor
    · rintro ⟨a, ha, h⟩; exact ⟨a, ha, by rw [← key a ha]; exact h⟩
    · rintro ⟨a, ha, h⟩; exact ⟨a, ha, by rw [key a ha]; exact h⟩
  rw [allowedP, allowedP, this]
theorem name_old {t : Ty} (ht : t ∈ l) : same nm t.name = false := by rw [same_comm]; exact A.name t ht
theorem via_types {ty via : ByteArray} {v : Rl} (h : relC l ty via = some v) : ∀ t ∈ typesP v.allow, same nm t = false := fun t ht => by
  obtain ⟨t', h1, h2⟩ := relC_mem h
  obtain ⟨a, ha, rfl⟩ := typesP_mem ht
  rw [same_comm]
  exact A.allow t' h1 v h2 a ha
theorem refP_old {t : Ty} (ht : t ∈ l) (x : Rf) : refP (l ++ [ownT nm]) t.name x = refP l t.name x := by
  have h1 := name_old A ht
  rw [refP, refP, has_old h1, relC_old h1]
  split
  · rfl
  · cases hv : relC l t.name x.via with
    | none => rfl
    | some v =>
      simp only
      have : ((typesP v.allow).all fun u => has (l ++ [ownT nm]) u x.rel) = (typesP v.allow).all fun u => has l u x.rel := by
        rw [Bool.eq_iff_iff, List.all_eq_true, List.all_eq_true]
        constructor
        · intro h u hu; rw [← has_old (nm := nm) (via_types A hv u hu)]; exact h u hu
        · intro h u hu; rw [has_old (via_types A hv u hu)]; exact h u hu
      rw [this]
omit A in
theorem first_congr' {α : Type} {f g : α → Int} {m : List α} (h : ∀ a ∈ m, f a = g a) : first f m = first g m := by
  induction m with
  | nil => rfl
  | cons a m ih => rw [first, first, h a (by simp), ih fun x hx => h x (by simp [hx])]
theorem relP_old {t : Ty} (ht : t ∈ l) (i : Nat) {r : Rl} (hr : r ∈ t.rels) : relP (l ++ [ownT nm]) t i r = relP l t i r := by
  rw [relP, relP, allowedP_old A ht hr, first_congr' (g := refP l t.name) fun x _ => refP_old A ht x]
theorem relsP_old {t : Ty} (ht : t ∈ l) : ∀ (m : List Rl) (i : Nat), (∀ r ∈ m, r ∈ t.rels) → relsP (l ++ [ownT nm]) t i m = relsP l t i m := by
  intro m
  induction m with
  | nil => intro i _; rfl
  | cons r m ih =>
    intro i h
    rw [relsP, relsP, relP_old A ht i (h r (by simp)), ih (i + 1) fun x hx => h x (by simp [hx])]
theorem typeP_old {t : Ty} (ht : t ∈ l) {i : Nat} (hi : i ≤ l.length) : typeP (l ++ [ownT nm]) i t = typeP l i t := by
  rw [typeP, typeP, relsP_old A ht t.rels 0 (fun _ h => h), List.take_append_of_le_length hi]
theorem own_fine : (typeP (l ++ [ownT nm]) l.length (ownT nm)).2.2 = 0 := by
  have h0 : (l.any fun x => same x.name nm) = false := by
    rw [List.any_eq_false]
    intro t ht
    rw [A.name t ht]; decide
  have h1 : lost (l ++ [ownT nm]) ⟨nm, none0, false⟩ = false := by
    have : ((l ++ [ownT nm]).any fun t => same t.name nm) = true := List.any_eq_true.2 ⟨ownT nm, by simp, same_self nm⟩
    rw [lost, this]
    show (!true || (!none0.toList.isEmpty && !has (l ++ [ownT nm]) nm none0)) = false
    rw [Lib.toList_data]
    rfl
  have h2 : allowedP (l ++ [ownT nm]) (ownR nm) = 0 := by
    rw [allowedP, if_neg]
    show ¬ ([⟨nm, none0, false⟩].any (lost (l ++ [ownT nm])) = true)
    rw [List.any_cons, h1]; simp
  have h3 : relP (l ++ [ownT nm]) (ownT nm) 0 (ownR nm) = 0 := by
    rw [relP, h2]
    have h4 : (direct (ownR nm).expr false false || direct (ownR nm).expr true false) = true := rfl
    rw [h4, if_neg (by simp [ownR]), if_neg (by simp), if_neg (by simp [ownR, twice]), if_neg (by simp [ownR]), if_neg (by simp)]
    rfl
  rw [typeP, if_neg (by simp [ownT]), if_neg (by rw [List.take_left' rfl]; show ¬ (l.any fun x => same x.name nm) = true; rw [h0]; decide)]
  show (relsP (l ++ [ownT nm]) (ownT nm) 0 [ownR nm]).2.2 = 0
  rw [relsP, h3, if_neg (by simp), relsP]
omit A in
theorem typesW_more : ∀ (m : List Ty) (i : Nat), (∀ t ∈ m, t ∈ l) → i + m.length ≤ l.length → Apart l nm →
    typesW (l ++ [ownT nm]) i (m ++ [ownT nm]) = if (typesW l i m).2.2 ≠ 0 then typesW l i m else typesW (l ++ [ownT nm]) (i + m.length) [ownT nm] := by
  intro m
  induction m with
  | nil => intro i _ _ _; rw [typesW, if_neg (by simp)]; rfl
  | cons t m ih =>
    intro i hm hi A
    rw [List.length_cons] at hi
    rw [List.cons_append, typesW, typesW, typeP_old A (hm t (by simp)) (by omega), ih (i + 1) (fun x hx => hm x (by simp [hx])) (by omega) A, List.length_cons]
    by_cases h : (typeP l i t).2.2 ≠ 0
    · rw [if_pos h, if_pos h, if_pos h]
    · rw [if_neg h, if_neg h, show i + 1 + m.length = i + (m.length + 1) by omega]
theorem namesP_more (h6 : l.length < 6) : ((namesP l).2.2 ≠ 0 → namesP (l ++ [ownT nm]) = namesP l) ∧ ((namesP l).2.2 = 0 → (namesP (l ++ [ownT nm])).2.2 = 0) := by
  have e : namesP (l ++ [ownT nm]) = if (typesW l 0 l).2.2 ≠ 0 then typesW l 0 l else (none0, none0, 0) := by
    have hT : typesW (l ++ [ownT nm]) l.length [ownT nm] = (none0, none0, 0) := by rw [typesW, if_neg (by rw [own_fine A]; simp), typesW]
    rw [namesP, if_neg (by rw [List.length_append, List.length_singleton]; omega), typesW_more l 0 (fun _ h => h) (by omega) A, Nat.zero_add, hT]
  have e2 : namesP l = typesW l 0 l := by rw [namesP, if_neg (by omega)]
  rw [e, e2]
  constructor
  · intro h; rw [if_pos h]
  · intro h; rw [if_neg (by simpa using h)]
theorem gC_more : gC (l ++ [ownT nm]) = gC l := by
  have h1 : gT (ownT nm) = true := by
    have h2 : gR (ownR nm) = true := by
      have h3 : gA ⟨nm, none0, false⟩ = true := by
        rw [gA, A.word]; rfl
      rw [gR, Bool.and_eq_true, Bool.and_eq_true]
      refine ⟨⟨show Tr.word ownN = true by decide +kernel, show (Tr.errOf (.mk 1 none0 none0 []) == 0) = true by decide +kernel⟩, ?_⟩
      show List.all [⟨nm, none0, false⟩] gA = true
      rw [List.all_cons, h3]; rfl
    rw [gT, Bool.and_eq_true]
    refine ⟨A.word, ?_⟩
    show List.all [ownR nm] gR = true
    rw [List.all_cons, h2]; rfl
  rw [gC, gC, List.all_append, List.all_cons, h1]
  simp
omit A in
theorem items_more : items (l ++ [ownT nm]) = items l ++ [(nm, ownN)] := by
  rw [items, List.flatMap_append]
  rfl
theorem items_apart {a : It} (h : a ∈ items l) : same nm a.1 = false ∧ same a.1 nm = false := by
  rw [items, List.mem_flatMap] at h
  obtain ⟨t, ht, ha⟩ := h
  rw [itemsT, List.mem_map] at ha
  obtain ⟨r, -, rfl⟩ := ha
  exact ⟨name_old A ht, A.name t ht⟩
theorem getD_apart (ty r : ByteArray) : ∀ a ∈ ((relC l ty r).getD zR).allow, same a.ty nm = false := by
  intro a ha
  cases h : relC l ty r with
  | none => rw [h] at ha; cases ha
  | some v =>
    rw [h] at ha
    obtain ⟨t, h1, h2⟩ := relC_mem h
    exact A.allow t h1 v h2 a ha
theorem hangs_old {a b : It} (ha : a ∈ items l) (odd : Bool) : hangs (l ++ [ownT nm]) a b odd = hangs l a b odd := by
  have h1 := (items_apart A ha).1
  have h2 : refTo (l ++ [ownT nm]) a b odd = refTo l a b odd := by
    funext x
    rw [refTo, refTo, viaTo, viaTo, relC_old h1]
  rw [hangs, hangs, relC_old h1, h2]
theorem hangs_to {a : It} (ha : a ∈ items l) (odd : Bool) : hangs (l ++ [ownT nm]) a (nm, ownN) odd = false := by
  have h1 := items_apart A ha
  rw [hangs_old A ha, hangs]
  have h2 : (((relC l a.1 a.2).getD zR).allow.any fun x => allowTo x (nm, ownN)) = false := by
    rw [List.any_eq_false]
    intro x hx
    rw [allowTo, getD_apart A a.1 a.2 x hx]
    simp
  have h3 : (refs ((relC l a.1 a.2).getD zR).expr false).any (refTo l a (nm, ownN) odd) = false := by
    rw [List.any_eq_false]
    intro x _
    have h4 : viaTo l a (nm, ownN) x = false := by
      rw [viaTo]
      split
      · exact h1.1
      · rw [List.any_eq_false]
        intro t ht
        obtain ⟨y, hy, rfl⟩ := typesP_mem ht
        show ¬ same y.ty nm = true
        rw [getD_apart A a.1 x.via y hy]; decide
    rw [refTo, h4, Bool.and_false]; decide
  rw [h2, h3, Bool.false_and, Bool.false_or]
theorem hangs_from {b : It} (hb : b ∈ items l ∨ b = (nm, ownN)) (odd : Bool) : hangs (l ++ [ownT nm]) (nm, ownN) b odd = false := by
  have h0 : (relC (l ++ [ownT nm]) nm ownN).getD zR = ownR nm := by rw [relC_own A.name]; rfl
  rw [hangs, h0]
  have h1 : allowTo ⟨nm, none0, false⟩ b = false := by
    rw [allowTo]
    rcases hb with hb | rfl
    · show (same nm b.1 && _) = false
      rw [(items_apart A hb).1, Bool.false_and]
    · show (_ && same none0 ownN) = false
      rw [show same none0 ownN = false from by rw [same, Lib.toList_data, Lib.toList_data]; decide, Bool.and_false]
  show ((List.any [⟨nm, none0, false⟩] (fun x => allowTo x b) && _) || List.any [] _) = false
  rw [List.any_cons, h1]
  simp
theorem edge_old {i k : Nat} (hi : i < (items l).length) (hk : k < (items l).length) : edge (l ++ [ownT nm]) i k = edge l i k := by
  rw [edge, edge, items_more, List.getElem?_append_left hi, List.getElem?_append_left hk, List.getElem?_eq_getElem hi, List.getElem?_eq_getElem hk]
  simp only
  rw [edgeI, edgeI, hangs_old A (List.getElem_mem hi), hangs_old A (List.getElem_mem hi)]
theorem edge_to {i : Nat} (hi : i ≤ (items l).length) : edge (l ++ [ownT nm]) i (items l).length = -1 := by
  have h1 : (items l ++ [(nm, ownN)])[(items l).length]? = some (nm, ownN) := by rw [List.getElem?_append_right (Nat.le_refl _), Nat.sub_self]; rfl
  rw [edge, items_more, h1]
  by_cases h : i < (items l).length
  · rw [List.getElem?_append_left h, List.getElem?_eq_getElem h]
    simp only
    rw [edgeI, hangs_to A (List.getElem_mem h), hangs_to A (List.getElem_mem h), if_neg (by decide), if_neg (by decide)]
  · obtain rfl : i = (items l).length := by omega
    rw [h1]
    simp only
    rw [edgeI, hangs_from A (.inr rfl), hangs_from A (.inr rfl), if_neg (by decide), if_neg (by decide)]
theorem edge_from {k : Nat} (hk : k < (items l).length) : edge (l ++ [ownT nm]) (items l).length k = -1 := by
  have h1 : (items l ++ [(nm, ownN)])[(items l).length]? = some (nm, ownN) := by rw [List.getElem?_append_right (Nat.le_refl _), Nat.sub_self]; rfl
  rw [edge, items_more, h1, List.getElem?_append_left hk, List.getElem?_eq_getElem hk]
  simp only
  rw [edgeI, hangs_from A (.inl (List.getElem_mem hk)), hangs_from A (.inl (List.getElem_mem hk)), if_neg (by decide), if_neg (by decide)]
omit A in
theorem way_more {n : Nat} {e e' : Nat → Nat → Int} (h1 : ∀ i, i < n → ∀ k, k < n → e' i k = e i k) (h2 : ∀ i, i ≤ n → e' i n = -1) (h3 : ∀ k, k < n → e' n k = -1) {i k : Nat} {L : List Nat} : Way (n + 1) e' i k L ↔ Way n e i k L := by
  have low : ∀ {i k : Nat}, i < n + 1 → k < n + 1 → 0 ≤ e' i k → i < n ∧ k < n := fun {i k} hi hk h0 => by
    have hkn : k ≠ n := fun e1 => by subst e1; have := h2 i (by omega); omega
    have hin : i ≠ n := fun e1 => by subst e1; have := h3 k (by omega); omega
    omega
  constructor
  · intro h
    induction h with
    | even hi hk h => obtain ⟨a, b⟩ := low hi hk (by omega); exact .even a b (by rw [← h1 _ a _ b]; exact h)
    | odd hi hk h => obtain ⟨a, b⟩ := low hi hk (by omega); exact .odd a b (by rw [← h1 _ a _ b]; exact h)
    | join _ _ a b => exact .join a b
  · intro h
    induction h with
    | even hi hk h => exact .even (by omega) (by omega) (by rw [h1 _ hi _ hk]; exact h)
    | odd hi hk h => exact .odd (by omega) (by omega) (by rw [h1 _ hi _ hk]; exact h)
    | join _ _ a b => exact .join a b
/-- What Check answers of the wider configuration. -/
theorem CheckOut.more (h6 : l.length < 6) {S : Nat → Int} {t r : ByteArray} {code : Int} {its : List It} (h : CheckOut l S t r code its) :
    CheckOut (l ++ [ownT nm]) (fun i => if i < its.length then S i else 0) t r code (if code = 0 then its ++ [(nm, ownN)] else its) := by
  have hw : ∀ {i k : Nat} {L : List Nat}, Way ((items l).length + 1) (edge (l ++ [ownT nm])) i k L ↔ Way (items l).length (edge l) i k L :=
    way_more (fun i hi k hk => edge_old A hi hk) (fun i hi => edge_to A hi) (fun k hk => edge_from A hk)
  have hl : (items (l ++ [ownT nm])).length = (items l).length + 1 := by rw [items_more, List.length_append, List.length_singleton]
  have hr : ∀ i, Rnd ((items l).length + 1) (edge (l ++ [ownT nm])) i ↔ Rnd (items l).length (edge l) i := fun i =>
    ⟨fun ⟨L, a, b⟩ => ⟨L, hw.1 a, b⟩, fun ⟨L, a, b⟩ => ⟨L, hw.2 a, b⟩⟩
  have hn := namesP_more A h6
  unfold CheckOut
  rw [gC_more A, hl]
  rcases h with ⟨a1, a2, a3, a4, a5⟩ | ⟨a1, a2, a3, a4, a5, a6⟩ | ⟨a1, a2, a3, a4, i, a, a5, a6, a7, a8, a9⟩ | ⟨a1, a2, a3, a4, a5, a6, a7, a8⟩
  · exact .inl ⟨a1, by rw [a5, if_neg (by decide)]; exact a2, a3, a4, a5⟩
  · refine .inr (.inl ⟨a1, by rw [hn.1 a2]; exact a2, ?_, by rw [hn.1 a2]; exact a4, by rw [hn.1 a2]; exact a5, by rw [hn.1 a2]; exact a6⟩)
    rw [if_neg (by rw [a6]; exact a2)]
    exact a3
  · refine .inr (.inr (.inl ⟨a1, hn.2 a2, by rw [a4, if_neg (by decide)]; exact a3, a4, i, a, ?_, a6, a7, (hr i).2 a8, fun j hj hh => a9 j hj ((hr j).1 hh)⟩))
    rw [items_more, List.getElem?_append_left (List.getElem?_eq_some_iff.1 a5).1]
    exact a5
  · refine .inr (.inr (.inr ⟨a1, hn.2 a2, by rw [if_pos a4, a3, items_more], a4, a5, a6, fun i hi hh => ?_, fun i hi => ?_⟩))
    · have h1 := (hr i).1 hh
      by_cases h : i < (items l).length
      · exact a7 i h h1
      · obtain ⟨L, h2, -⟩ := h1
        exact h h2.lt.1
    · rw [a3]
      by_cases h : i < (items l).length
      · obtain ⟨s, h1, h2, h3⟩ := a8 i h
        refine ⟨s, by simp only [if_pos h]; exact h1, fun k L hk => h2 k L (hw.1 hk), ?_⟩
        rcases h3 with h3 | ⟨k, L, h4, h5⟩
        · exact .inl h3
        · exact .inr ⟨k, L, hw.2 h4, h5⟩
      · refine ⟨0, by simp only [if_neg h]; rfl, fun k L hk => ?_, .inl rfl⟩
        exact absurd (hw.1 hk).lt.1 h
end
end Lt
end Go.Proofs.YticcldohgbpcbaaGreatDoor

namespace Go.Proofs.YticcldohgbpcbaaGreatDoor
open Go.RowKit
namespace Lt
open Tr (Nd IsNode node4 none0 size RowAt IsElem own_slice own_below)
open Gr (Al Rl Ty IsAl IsRl IsTy IsCf Lies alV relV tyV tAl tRl tTy tCf cellsV)
open Knot (Turns NewRow)

theorem append_zero {P : Program} {t e : TypeId} {i : TypeInfo} {z : Value} {sz by' : Nat} (T : IsElem P t e i z sz by') (ty : TypeId) {B n : Nat} {v : Value} {xs : List Value} {w : World} (hown : w.ownsRow B e sz v n xs) (hs : n ≤ 100000000) (ao : Option Addr) (c : Nat) :
    (Builtin.append_ #[t, t] ty #[v, .slice ao 0 c]).run P w = .ok v w := by
  rcases hown.2 with ⟨rfl, rfl⟩ | ⟨g, cap, cur, rfl, hbg, hg, hnc, hcm, hcs, htake⟩
  · cases ao <;> simp [Builtin.append_, run_underlying T.under, sizeOf, typeInfo, T.info, Builtin.lenOf, Builtin.firstCells, loadCells, loadCellsFrom]
  · have h1 : ¬ (9223372036854775807 < (n : Int)) := by omega
    cases ao <;> simp [Builtin.append_, run_underlying T.under, sizeOf, typeInfo, T.info, Builtin.lenOf, Builtin.firstCells, loadCells, loadCellsFrom, hnc, storeCells]
theorem cellsV_size {c : Nat} : ∀ {vs : List Value}, (∀ v ∈ vs, v.cells.size = c) → (cellsV vs).length = vs.length * c
  | [], _ => by simp [cellsV]
  | v :: vs, h => by
    have ih := cellsV_size (vs := vs) fun x hx => h x (by simp [hx])
    have h1 := h v (by simp)
    rw [cellsV] at ih ⊢
    rw [List.flatMap_cons, List.length_append, ih, Array.length_toList, h1, List.length_cons, Nat.add_mul, Nat.one_mul]
    omega
theorem row_size {w : World} {c g o : Nat} {vs : List Value} (hr : RowAt w c g o vs) : ∀ v ∈ vs, v.cells.size = c := fun v hv => by
  obtain ⟨i, hi, rfl⟩ := List.getElem_of_mem hv
  exact (hr i _ (List.getElem?_eq_getElem hi)).1
/-- The cells of a row that lies in memory, one behind the other. -/
theorem row_cells {w : World} {c g o : Nat} {vs : List Value} (hc : 0 < c) (hr : RowAt w c g o vs) : ∀ k u, (cellsV vs)[k]? = some u → w.cell? ((⟨g, o, none⟩ : Addr).add k) = some u := fun k u hk => by
  have hs := row_size hr
  have hlt : k < vs.length * c := by
    have := (List.getElem?_eq_some_iff.1 hk).1
    rwa [cellsV_size hs] at this
  have hi : k / c < vs.length := Nat.div_lt_of_lt_mul (by rw [Nat.mul_comm]; exact hlt)
  have hj := Nat.mod_lt k hc
  have e : k / c * c + k % c = k := by rw [Nat.mul_comm]; exact Nat.div_add_mod k c
  have h1 := Gr.cellsV_at hs (List.getElem?_eq_getElem hi) (k % c) hj
  rw [e, hk] at h1
  have h2 := (hr (k / c) _ (List.getElem?_eq_getElem hi)).2 (k % c) u h1.symm
  rw [Tr.addp]
  rw [show o + k / c * c + k % c = o + k by omega] at h2
  exact h2
theorem wide_is {w y : World} {l : List Ty} {us : List Value} {ao : Option Addr} {nm : ByteArray} (hl : Lies IsTy 2 w ao l us) (hb : Below w.heap.size w y) {B R A : Nat} {v : Value}
    (ho : y.ownsRow B tTy 2 v (l.length + 1) (cellsV us ++ [.string nm, .slice (some ⟨R, 0, none⟩) 1 1]))
    (hR : y.heap[R]? = some (.cells #[.string ownN, .slice (some ⟨A, 0, none⟩) 1 1, .int .i64 1, .string none0, .string none0, .slice none 0 0] tRl (0, 0)))
    (hA : y.heap[A]? = some (.cells #[.string nm, .string none0, .bool false] tAl (0, 0))) : ∃ ao' cap', v = .slice ao' (l.length + 1) cap' ∧ IsCf y (l ++ [ownT nm]) (.agg #[v]) := by
  obtain ⟨ao', cap', rfl⟩ := own_slice ho
  have hsz : ∀ u ∈ us, u.cells.size = 2 := by
    by_cases h0 : l = []
    · subst h0
      have : us = [] := List.eq_nil_of_length_eq_zero hl.len
      subst this
      intro u hu; cases hu
    · obtain ⟨g, o, -, hr⟩ := hl.row h0
      exact row_size hr
  have hal : Lies IsAl 3 y (some ⟨A, 0, none⟩) [⟨nm, none0, false⟩] [alV ⟨nm, none0, false⟩] := by
    refine ⟨rfl, show 1 ≤ maxLen by decide, fun _ => ⟨A, 0, rfl, fun i u hu => ?_⟩, fun i a u ha hu => ?_⟩
    · match i, hu with
      | 0, hu =>
        obtain rfl : alV ⟨nm, none0, false⟩ = u := by simpa using hu
        refine ⟨rfl, fun j z hz => ?_⟩
        rw [Lib.cell_of_heap hA]
        simpa [Value.cells] using hz
      | i + 1, hu => simp at hu
    · match i, ha, hu with
      | 0, ha, hu =>
        obtain rfl : (⟨nm, none0, false⟩ : Al) = a := by simpa using ha
        obtain rfl : alV ⟨nm, none0, false⟩ = u := by simpa using hu
        rfl
      | i + 1, ha, hu => simp at ha
  have hnd : IsNode y (ownR nm).expr (node4 1 none0 none0 (.slice none 0 0)) := by
    show IsNode y (.mk 1 none0 none0 []) _
    rw [IsNode]
    refine ⟨none, 0, [], rfl, ⟨by decide, by decide⟩, fun h => absurd rfl h, ?_⟩
    rw [Tr.IsNodes]
  have hrl : Lies IsRl 6 y (some ⟨R, 0, none⟩) [ownR nm] [relV (ownR nm) (.slice (some ⟨A, 0, none⟩) 1 1) (.slice none 0 0)] := by
    refine ⟨rfl, show 1 ≤ maxLen by decide, fun _ => ⟨R, 0, rfl, fun i u hu => ?_⟩, fun i a u ha hu => ?_⟩
    · match i, hu with
      | 0, hu =>
        obtain rfl : relV (ownR nm) (.slice (some ⟨A, 0, none⟩) 1 1) (.slice none 0 0) = u := by simpa using hu
        refine ⟨rfl, fun j z hz => ?_⟩
        rw [Lib.cell_of_heap hR]
        simpa [Value.cells, relV, ownR, Tr.Nd.kind, Tr.Nd.ta, Tr.Nd.tb] using hz
      | i + 1, hu => simp at hu
    · match i, ha, hu with
      | 0, ha, hu =>
        obtain rfl : ownR nm = a := by simpa using ha
        obtain rfl : relV (ownR nm) (.slice (some ⟨A, 0, none⟩) 1 1) (.slice none 0 0) = u := by simpa using hu
        exact ⟨_, _, _, _, _, rfl, hal, hnd⟩
      | i + 1, ha, hu => simp at ha
  have hlen : (l ++ [ownT nm]).length = l.length + 1 := by rw [List.length_append, List.length_singleton]
  have hus := hl.len
  refine ⟨ao', cap', rfl, ao', cap', us ++ [tyV (ownT nm) (.slice (some ⟨R, 0, none⟩) 1 1)], by rw [hlen], Lies.of_own (B := B) (cap := cap') (e := tTy) ?_ (by rw [List.length_append, List.length_singleton, hus, hlen]) (fun u hu => ?_) fun i a u hi hu => ?_⟩
  · rw [hlen, Gr.cellsV_append, Gr.cellsV_one]
    exact ho
  · rcases List.mem_append.1 hu with hu | hu
    · exact hsz u hu
    · rw [List.mem_singleton] at hu; subst hu; rfl
  · by_cases h : i < l.length
    · rw [List.getElem?_append_left h] at hi
      rw [List.getElem?_append_left (by omega)] at hu
      exact (hl.is i a u hi hu).below hb
    · rw [List.getElem?_append_right (by omega)] at hi
      rw [List.getElem?_append_right (by omega), hus] at hu
      have h0 : i - l.length = 0 := by
        have := (List.getElem?_eq_some_iff.1 hi).1
        simp at this
        omega
      rw [h0] at hi hu
      obtain rfl : ownT nm = a := by simpa using hi
      obtain rfl : tyV (ownT nm) (.slice (some ⟨R, 0, none⟩) 1 1) = u := by simpa using hu
      exact ⟨_, _, _, rfl, hrl⟩
end Lt
end Go.Proofs.YticcldohgbpcbaaGreatDoor

namespace Go.Proofs.YticcldohgbpcbaaGreatDoor
open Go.RowKit
namespace LawL9More
open Tr (Nd none0 size IsElem own_slice walk_rows)
open Gr (Al Rl Ty IsAl IsRl IsTy IsCf Lies ty_at rl_at al_at alV relV tyV tAl tRl tTy tCf box1 box2 box6 cellsV new_cells elT)
open Cn (ShortC box3 all_at)
open Knot (Turns)
open Lt
open Who (wp_region_class quiet_of)

section
variable {ops : Array Oper} {rest : List Oper} {o : Oper} {a : Act} {Q : Exit → Act → World → Prop}
theorem walk_lies (hgd : o.guard = none) (s x : Operand) (ho : o.op = .call { callee := .builtin .append, args := #[s, x], argTypes := #[22, 22] }) {w : World} {B cap : Nat} {ao : Option Addr} {l : List Ty} {us : List Value} {v : Value}
    (hs : a.eval s = v) (hx : a.eval x = .slice ao l.length cap) (hown : w.ownsRow B tTy 2 v 0 []) (hB : B ≤ w.heap.size) (hl : Lies IsTy 2 w ao l us) (hn : l.length ≤ 1000)
    (h : ∀ v' y, y.ownsRow B tTy 2 v' l.length (cellsV us) → Below B w y → wpList Tryz.prog ops Q rest (a.put o.dst v') y) : wpList Tryz.prog ops Q (o :: rest) a w := by
  obtain ⟨ti, tz, tb, TE, hT⟩ := elT
  by_cases h0 : l = []
  · subst h0
    obtain rfl : us = [] := List.eq_nil_of_length_eq_zero hl.len
    refine wpList_plain hgd fun K hK => ?_
    have hr := append_zero TE o.type hown (by omega) ao cap
    unfold Oper.wp execOp
    simp only [List.length_nil] at hx
    simp only [ho, resolve, invoke, builtin, Sem.run_bind, Sem.run_pure, Result.andThen_ok, List.map_toArray, List.map_cons, List.map_nil, hs, hx, hr]
    exact hK _ _ (h v w (by simpa [cellsV] using hown) (Below.refl _ _))
  · obtain ⟨g, q, rfl, hr⟩ := hl.row h0
    have hsz := row_size hr
    refine walk_rows TE hgd s x ho hs hx hown hB (news := cellsV us) (by rw [cellsV_size hsz, hl.len]) (row_cells (by decide) hr) (fun u hu => ?_) (by omega) (Nat.le_trans (Nat.mul_le_mul_left _ hT) (by omega)) ?_
    · rw [cellsV, List.mem_flatMap] at hu
      obtain ⟨t, ht, hu⟩ := hu
      obtain ⟨i, hi, rfl⟩ := List.getElem_of_mem ht
      obtain ⟨_, _, _, e, -⟩ := hl.is i (l[i]'(by have := hl.len; omega)) _ (List.getElem?_eq_getElem _) (List.getElem?_eq_getElem hi)
      rw [e] at hu
      simp [Value.cells] at hu
      rcases hu with rfl | rfl <;> rfl
    · intro v' y h1 h2 _
      rw [Nat.zero_add, List.nil_append] at h1
      exact h v' y h1 ((Below.refl _ _).grown h2 hB fun k hk => (World.ownsRow.lt hown k hk).1)
end
def apB (nm : ByteArray) (t : Ty) : Bool := !same t.name nm && t.rels.all fun r => r.allow.all fun a => !same a.ty nm
theorem apart_of {l : List Ty} {nm : ByteArray} (hw : Tr.word nm = true) (h : l.all (apB nm) = true) : Apart l nm := by
  have key : ∀ t ∈ l, same t.name nm = false ∧ ∀ r ∈ t.rels, ∀ a ∈ r.allow, same a.ty nm = false := fun t ht => by
    have h1 := List.all_eq_true.1 h t ht
    rw [apB, Bool.and_eq_true] at h1
    exact ⟨by simpa using h1.1, fun r hr a ha => by simpa using List.all_eq_true.1 (List.all_eq_true.1 h1.2 r hr) a ha⟩
  exact ⟨hw, fun t ht => (key t ht).1, fun t ht => (key t ht).2⟩
theorem spot_same (t r : ByteArray) (W : World) : (binOp .eql 29 (.agg #[.string t, .string r]) (.agg #[.string t, .string r])).run Tryz.prog W = .ok (.bool true) W := by go_simp
theorem pit_ne (a b : ByteArray) (s : Int) (W : World) : (binOp .neq tPi (.agg #[.string a, .string b, .int .i64 s]) (.agg #[.string a, .string b, .int .i64 s])).run Tryz.prog W = .ok (.bool false) W := by go_simp
theorem wide_fits {l : List Ty} {nm : ByteArray} (A : Apart l nm) (hs : ShortC l) (hsc : Scant l) (hsl : Slim l) (hi : (items l).length ≤ 96) : ShortC (l ++ [ownT nm]) ∧ Scant (l ++ [ownT nm]) ∧ Slim (l ++ [ownT nm]) ∧ (items (l ++ [ownT nm])).length ≤ 1000 := by
  have hz : ∀ t ∈ l ++ [ownT nm], t ∈ l ∨ t = ownT nm := fun t ht => by simpa using ht
  have hown : ∀ r ∈ (ownT nm).rels, r = ownR nm := fun r hr => by simpa [ownT] using hr
  refine ⟨fun t ht => ?_, fun t ht r hr => ?_, fun t ht r hr => ?_, by rw [items_more, List.length_append, List.length_singleton]; omega⟩
  · rcases hz t ht with h | rfl
    · exact hs t h
    · refine ⟨word_len A.word, fun r hr => ?_⟩
      obtain rfl := hown r hr
      refine ⟨show ownN.size ≤ maxLen by decide, fun a ha => ?_⟩
      obtain rfl : a = ⟨nm, none0, false⟩ := by simpa [ownR] using ha
      exact ⟨word_len A.word, show none0.size ≤ maxLen by decide⟩
  · rcases hz t ht with h | rfl
    · exact hsc t h r hr
    · obtain rfl := hown r hr
      show 1 ≤ 100000
      decide
  · rcases hz t ht with h | rfl
    · exact hsl t h r hr
    · obtain rfl := hown r hr
      show size (.mk 1 none0 none0 []) ≤ 300
      simp [Tr.size, Tr.sizes]
theorem step_at {l : List Ty} {nm : ByteArray} (A : Apart l nm) (h6 : l.length < 6) {S S2 : Nat → Int} {t t2 r r2 : ByteArray} {code code2 : Int} {its its2 : List It} (h : CheckOut l S t r code its) (k : CheckOut (l ++ [ownT nm]) S2 t2 r2 code2 its2) :
    t = t2 ∧ r = r2 ∧ code = code2 ∧ (code = 0 → its2 = its ++ [(nm, ownN)] ∧ (∀ i, i < its.length → S i = S2 i) ∧ S2 its.length = 0) := by
  obtain ⟨e1, e2, e3, e4, e5⟩ := (CheckOut.more A h6 h).one k
  refine ⟨e1, e2, e3, fun h0 => ?_⟩
  rw [if_pos h0] at e4 e5
  refine ⟨e4.symm, fun i hi => ?_, ?_⟩
  · have := e5 i (by rw [List.length_append, List.length_singleton]; omega)
    rwa [if_pos hi] at this
  · have := e5 its.length (by rw [List.length_append, List.length_singleton]; omega)
    rw [if_neg (by omega)] at this
    exact this.symm
end LawL9More
end Go.Proofs.YticcldohgbpcbaaGreatDoor

namespace Go.Proofs.YticcldohgbpcbaaGreatDoor
open Go.RowKit
namespace LawL9More
open Tr (Nd none0 size IsElem own_slice walk_rows)
open Gr (Al Rl Ty IsAl IsRl IsTy IsCf Lies ty_at rl_at al_at alV relV tyV tAl tRl tTy tCf box1 box2 box6 cellsV new_cells elT)
open Cn (ShortC box3 all_at)
open Knot (Turns)
open Lt
open Who (wp_region_class quiet_of)

set_option maxHeartbeats 8000000 in
set_option maxRecDepth 100000 in
theorem far (l : List Ty) (nm : ByteArray) (v : Value) (w : World) (hn : IsCf w l v) (ha : ∀ t ∈ l, ∀ r ∈ t.rels, r.allow.length ≤ 281474976710656) (hm : nm.size ≤ maxLen) (hz : ¬ (few9 l = true ∧ Tr.word nm = true ∧ l.length < 6))
    (hA : ∀ x, Below w.heap.size w x → Calls Tryz.prog 8 #[] x fun e y => e = .returned (.bool true) ∧ Below x.heap.size x y) :
    Calls Tryz.prog 6 #[v, .string nm] w fun e x => e = .returned (.bool true) ∧ Below w.heap.size w x := by
  obtain ⟨ao, cap, us, rfl, -⟩ := id hn
  have HA := Lib.hid hA
  have HF := Lib.hid (show ∀ x, Below w.heap.size w x → Calls Tryz.prog 9 #[.agg #[.slice ao l.length cap]] x fun e y => e = .returned (.bool (few9 l)) ∧ Below x.heap.size x y from fun x hx => few9_any l _ x (hn.below hx) ha)
  have HW := Lib.hid (fun x => Tr.rword_any nm x hm)
  have H0 := Lib.hid (And.intro (Tr.fresh_one w (.cells #[.slice ao l.length cap] tCf)) (heap_alloc_new w (.cells #[.slice ao l.length cap] tCf)))
  generalize few9 l = fe at *
  generalize Tr.word nm = wd at *
  have HZ := Lib.hid hz
  clear hn hz ha hA hm
  cases fe with
  | false =>
    go_enter Tryz.func6, Tryz.ntmps6
    go_wp2_with fail
    refine (HA.out _ H0.out.1).mono ?_
    rintro e x ⟨rfl, hx⟩
    have H1 := Lib.hid (And.intro (H0.out.1.trans (hx.mono H0.out.1.size)) ((hx.block _ (Array.getElem?_eq_some_iff.1 H0.out.2).1).trans H0.out.2))
    have b0 := box1 H1.out.2
    clear hx
    go_wp2_with fail
    refine (HF.out _ H1.out.1).mono ?_
    rintro e y ⟨rfl, hy⟩
    have H2 := Lib.hid (H1.out.1.trans (hy.mono H1.out.1.size))
    clear hy
    go_wp2_with fail
    refine (HA.out _ H2.out).mono ?_
    rintro e z ⟨rfl, hz⟩
    go_wp2_with fail
    go_ret
    exact ⟨rfl, H2.out.trans (hz.mono H2.out.size)⟩
  | true =>
    cases wd with
    | false =>
      go_enter Tryz.func6, Tryz.ntmps6
      go_wp2_with fail
      refine (HA.out _ H0.out.1).mono ?_
      rintro e x ⟨rfl, hx⟩
      have H1 := Lib.hid (And.intro (H0.out.1.trans (hx.mono H0.out.1.size)) ((hx.block _ (Array.getElem?_eq_some_iff.1 H0.out.2).1).trans H0.out.2))
      have b0 := box1 H1.out.2
      clear hx
      go_wp2_with fail
      refine (HF.out _ H1.out.1).mono ?_
      rintro e y ⟨rfl, hy⟩
      have H2 := Lib.hid (H1.out.1.trans (hy.mono H1.out.1.size))
      clear hy
      go_wp2_with fail
      refine (HW.out _).mono ?_
      rintro e y1 ⟨rfl, hy⟩
      have H3 := Lib.hid (H2.out.trans (hy.mono H2.out.size))
      clear hy
      go_wp2_with fail
      refine (HA.out _ H3.out).mono ?_
      rintro e z ⟨rfl, hz⟩
      go_wp2_with fail
      go_ret
      exact ⟨rfl, H3.out.trans (hz.mono H3.out.size)⟩
    | true =>
      have e6 : decide ((6 : Int) ≤ (l.length : Int)) = true := by
        have : ¬ l.length < 6 := fun h => HZ.out ⟨rfl, rfl, h⟩
        simp; omega
      go_enter Tryz.func6, Tryz.ntmps6
      go_wp2_with fail
      refine (HA.out _ H0.out.1).mono ?_
      rintro e x ⟨rfl, hx⟩
      have H1 := Lib.hid (And.intro (H0.out.1.trans (hx.mono H0.out.1.size)) ((hx.block _ (Array.getElem?_eq_some_iff.1 H0.out.2).1).trans H0.out.2))
      have b0 := box1 H1.out.2
      clear hx
      go_wp2_with fail
      refine (HF.out _ H1.out.1).mono ?_
      rintro e y ⟨rfl, hy⟩
      have H2 := Lib.hid (And.intro (H1.out.1.trans (hy.mono H1.out.1.size)) ((hy.block _ (Array.getElem?_eq_some_iff.1 H1.out.2).1).trans H1.out.2))
      clear hy b0
      go_wp2_with fail
      refine (HW.out _).mono ?_
      rintro e y1 ⟨rfl, hy⟩
      have H3 := Lib.hid (And.intro (H2.out.1.trans (hy.mono H2.out.1.size)) ((hy.block _ (Array.getElem?_eq_some_iff.1 H2.out.2).1).trans H2.out.2))
      clear hy
      have b0 := box1 H3.out.2
      go_wp2_with fail
      refine (HA.out _ H3.out.1).mono ?_
      rintro e z ⟨rfl, hz⟩
      go_wp2_with fail
      go_ret
      exact ⟨rfl, H3.out.1.trans (hz.mono H3.out.1.size)⟩

theorem three (w : World) (nm : ByteArray) :
    Below w.heap.size w (((w.alloc (.cells #[.string nm, .string ⟨#[]⟩, .bool false] tAl)).alloc (.cells #[.string ⟨#[111, 119, 110]⟩, .slice (some ⟨w.heap.size, 0, none⟩) 1 1, .int .i64 1, .string ⟨#[]⟩, .string ⟨#[]⟩, .slice none 0 0] tRl)).alloc (.cells #[.string nm, .slice (some ⟨w.heap.size + 1, 0, none⟩) 1 1] tTy)) ∧
    (((w.alloc (.cells #[.string nm, .string ⟨#[]⟩, .bool false] tAl)).alloc (.cells #[.string ⟨#[111, 119, 110]⟩, .slice (some ⟨w.heap.size, 0, none⟩) 1 1, .int .i64 1, .string ⟨#[]⟩, .string ⟨#[]⟩, .slice none 0 0] tRl)).alloc (.cells #[.string nm, .slice (some ⟨w.heap.size + 1, 0, none⟩) 1 1] tTy)).heap.size = w.heap.size + 3 ∧
    (((w.alloc (.cells #[.string nm, .string ⟨#[]⟩, .bool false] tAl)).alloc (.cells #[.string ⟨#[111, 119, 110]⟩, .slice (some ⟨w.heap.size, 0, none⟩) 1 1, .int .i64 1, .string ⟨#[]⟩, .string ⟨#[]⟩, .slice none 0 0] tRl)).alloc (.cells #[.string nm, .slice (some ⟨w.heap.size + 1, 0, none⟩) 1 1] tTy)).heap[w.heap.size]? = some (.cells #[.string nm, .string ⟨#[]⟩, .bool false] tAl (0, 0)) ∧
    (((w.alloc (.cells #[.string nm, .string ⟨#[]⟩, .bool false] tAl)).alloc (.cells #[.string ⟨#[111, 119, 110]⟩, .slice (some ⟨w.heap.size, 0, none⟩) 1 1, .int .i64 1, .string ⟨#[]⟩, .string ⟨#[]⟩, .slice none 0 0] tRl)).alloc (.cells #[.string nm, .slice (some ⟨w.heap.size + 1, 0, none⟩) 1 1] tTy)).heap[w.heap.size + 1]? = some (.cells #[.string ⟨#[111, 119, 110]⟩, .slice (some ⟨w.heap.size, 0, none⟩) 1 1, .int .i64 1, .string ⟨#[]⟩, .string ⟨#[]⟩, .slice none 0 0] tRl (0, 0)) := by
  obtain ⟨h1, h2, h3, h4⟩ := Gr.two_boxes w #[.string nm, .string ⟨#[]⟩, .bool false] #[.string ⟨#[111, 119, 110]⟩, .slice (some ⟨w.heap.size, 0, none⟩) 1 1, .int .i64 1, .string ⟨#[]⟩, .string ⟨#[]⟩, .slice none 0 0] tAl tRl
  generalize (w.alloc (.cells #[.string nm, .string ⟨#[]⟩, .bool false] tAl)).alloc (.cells #[.string ⟨#[111, 119, 110]⟩, .slice (some ⟨w.heap.size, 0, none⟩) 1 1, .int .i64 1, .string ⟨#[]⟩, .string ⟨#[]⟩, .slice none 0 0] tRl) = W at *
  have al := Tr.fresh_one W (.cells #[.string nm, .slice (some ⟨w.heap.size + 1, 0, none⟩) 1 1] tTy)
  exact ⟨h1.trans (al.mono h1.size), by simp [h4], (al.block _ (Array.getElem?_eq_some_iff.1 h2).1).trans h2, (al.block _ (Array.getElem?_eq_some_iff.1 h3).1).trans h3⟩

theorem all_take {α : Type} {p : α → Bool} {l : List α} {j : Nat} (hj : j < l.length) (h : (l.take j).all p = true) (h2 : p l[j] = true) : (l.take (j + 1)).all p = true := by
  rw [List.take_add_one, List.getElem?_eq_getElem hj, List.all_append, h]
  simp [h2]
set_option maxHeartbeats 16000000 in
set_option maxRecDepth 100000 in
theorem near (HCk : CheckOk) (l : List Ty) (nm : ByteArray) (v : Value) (w : World) (hn : IsCf w l v) (hs : ShortC l) (ha : ∀ t ∈ l, ∀ r ∈ t.rels, r.allow.length ≤ 281474976710656) (hm : nm.size ≤ maxLen) (hf : few9 l = true) (hw : Tr.word nm = true) (h6 : l.length < 6)
    (hA : ∀ x, Below w.heap.size w x → Calls Tryz.prog 8 #[] x fun e y => e = .returned (.bool true) ∧ Below x.heap.size x y) :
    Calls Tryz.prog 6 #[v, .string nm] w fun e x => e = .returned (.bool true) ∧ Below w.heap.size w x := by
  obtain ⟨ao, cap, us, rfl, hl⟩ := id hn
  obtain ⟨-, hsc, hsl, hit⟩ := few9_parts hf
  have HA := Lib.hid hA
  have HF := Lib.hid (show ∀ x, Below w.heap.size w x → Calls Tryz.prog 9 #[.agg #[.slice ao l.length cap]] x fun e y => e = .returned (.bool true) ∧ Below x.heap.size x y from fun x hx => by
    have := few9_any l _ x (hn.below hx) ha
    rwa [hf] at this)
  have HWd := Lib.hid (show ∀ x, Calls Tryz.prog 13 #[.string nm] x fun e y => e = .returned (.bool true) ∧ Below x.heap.size x y from fun x => by
    have := Tr.rword_any nm x hm
    rwa [hw] at this)
  have HP := Lib.hid (fun x (hx : Below w.heap.size w x) => HCk l _ x (hn.below hx) hs hsc hsl hit)
  have HQ := Lib.hid (And.intro HCk (And.intro hs (And.intro hsc (And.intro hsl (And.intro (few9_items hf) (And.intro hw (And.intro h6 hl)))))))
  have HL := Lib.hid hl
  have e6 : decide ((6 : Int) ≤ (l.length : Int)) = false := by simp; omega
  have H0 := Lib.hid (And.intro (Tr.fresh_one w (.cells #[.slice ao l.length cap] tCf)) (heap_alloc_new w (.cells #[.slice ao l.length cap] tCf)))
  clear hn hs ha hm hf hw hA hl hsc hsl hit HCk
  go_enter Tryz.func6, Tryz.ntmps6
  go_wp2_with fail
  refine (HA.out _ H0.out.1).mono ?_
  rintro e x ⟨rfl, hx⟩
  have H1 := Lib.hid (And.intro (H0.out.1.trans (hx.mono H0.out.1.size)) ((hx.block _ (Array.getElem?_eq_some_iff.1 H0.out.2).1).trans H0.out.2))
  have b0 := box1 H1.out.2
  clear hx H0 HA
  go_wp2_with fail
  refine (HF.out _ H1.out.1).mono ?_
  rintro e y ⟨rfl, hy⟩
  have H2 := Lib.hid (And.intro (H1.out.1.trans (hy.mono H1.out.1.size)) ((hy.block _ (Array.getElem?_eq_some_iff.1 H1.out.2).1).trans H1.out.2))
  clear hy b0 H1 HF
  go_wp2_with fail
  refine (HWd.out _).mono ?_
  rintro e y1 ⟨rfl, hy⟩
  have H3 := Lib.hid (And.intro (H2.out.1.trans (hy.mono H2.out.1.size)) ((hy.block _ (Array.getElem?_eq_some_iff.1 H2.out.2).1).trans H2.out.2))
  clear hy H2 HWd
  have b0 := box1 H3.out.2
  go_wp2_with fail
  clear b0 e6
  go_loopw [41] (fun i wr => ∃ j : Nat, j ≤ l.length ∧ i = .int .i64 j ∧ Hid ((l.take j).all (apB nm) = true) ∧ Below y1.heap.size y1 wr) (fun i _ => l.length - (intOf i).toNat)
  case atStart => exact ⟨0, by omega, rfl, Lib.hid rfl, Below.refl _ _⟩
  case round =>
    obtain ⟨j, hj, rfl, hall, hb⟩ := hrel
    have hbw := H3.out.1.trans (hb.mono H3.out.1.size)
    by_cases hlt : j < l.length
    · obtain ⟨g, q, ro, rc, vs, hix, hg, c0', c1', hrl⟩ := ty_at HL.out cap hlt
      have c0 := (hbw.cell (p := ⟨g, q, none⟩) hg).trans c0'
      have c1 := (hbw.cell (p := ⟨g, q + 1, none⟩) hg).trans c1'
      have hat := fun h => all_take (p := apB nm) hlt hall.out h
      generalize l[j] = t at *
      have hkx := heap_alloc_new wr (.cells #[.string t.name, .slice ro t.rels.length rc] tTy)
      have al := Tr.fresh_one wr (.cells #[.string t.name, .slice ro t.rels.length rc] tTy)
      have HB := Lib.hid (And.intro (hbw.trans (al.mono hbw.size)) (And.intro (hb.trans (al.mono hb.size)) hkx))
      have HLR := Lib.hid hrl
      have hb8 := hrl.big
      unfold maxLen at hb8
      have HAT := Lib.hid hat
      clear hg c0' c1' hrl hall hb hbw hkx al hat
      go_upto_region 6 with fail
      clear hix c0 c1
      generalize wr.alloc (.cells #[.string t.name, .slice ro t.rels.length rc] tTy) = Y at *
      generalize wr.heap.size = RX at *
      obtain ⟨x0, x1⟩ := box2 HB.out.2.2
      cases hsm : same t.name nm with
      | true =>
        have e1 : (t.name.toList == nm.toList) = true := hsm
        clear hsm
        go_wp2_with fail
        go_ret
        exact ⟨rfl, HB.out.1⟩
      | false =>
        have e1 : (t.name.toList == nm.toList) = false := hsm
        have HAT2 := Lib.hid (show (t.rels.all fun r => r.allow.all fun a => !same a.ty nm) = true → (l.take (j + 1)).all (apB nm) = true from fun h => HAT.out (by rw [apB, hsm, h]; rfl))
        clear hsm HAT
        go_wp2_with fail
        clear e1 x0 x1
        go_loopw [52] (fun i wr => ∃ k : Nat, k ≤ t.rels.length ∧ i = .int .i64 k ∧ Hid (((t.rels.take k).all fun r => r.allow.all fun a => !same a.ty nm) = true) ∧ Below Y.heap.size Y wr) (fun i _ => t.rels.length - (intOf i).toNat)
        case atStart => exact ⟨0, by omega, rfl, Lib.hid rfl, Below.refl _ _⟩
        case round =>
          obtain ⟨k, hk, rfl, hall, hb⟩ := hrel
          have hbw := HB.out.1.trans (hb.mono HB.out.1.size)
          by_cases hkt : k < t.rels.length
          · obtain ⟨g, q, so, sc, no, nc, ss, hix, hg, d0', d1', d2', d3', d4', d5', hal, -⟩ := rl_at HLR.out rc hkt
            have d0 := (hbw.cell (p := ⟨g, q, none⟩) hg).trans d0'
            have d1 := (hbw.cell (p := ⟨g, q + 1, none⟩) hg).trans d1'
            have d2 := (hbw.cell (p := ⟨g, q + 2, none⟩) hg).trans d2'
            have d3 := (hbw.cell (p := ⟨g, q + 3, none⟩) hg).trans d3'
            have d4 := (hbw.cell (p := ⟨g, q + 4, none⟩) hg).trans d4'
            have d5 := (hbw.cell (p := ⟨g, q + 5, none⟩) hg).trans d5'
            have hat := fun h => all_take (p := fun r : Rl => r.allow.all fun a => !same a.ty nm) hkt hall.out h
            generalize t.rels[k] = r at *
            have hkx := heap_alloc_new wr (.cells #[.string r.name, .slice so r.allow.length sc, .int .i64 r.expr.kind, .string r.expr.ta, .string r.expr.tb, .slice no r.expr.kids.length nc] tRl)
            have al := Tr.fresh_one wr (.cells #[.string r.name, .slice so r.allow.length sc, .int .i64 r.expr.kind, .string r.expr.ta, .string r.expr.tb, .slice no r.expr.kids.length nc] tRl)
            have HC := Lib.hid (And.intro (hbw.trans (al.mono hbw.size)) (And.intro (hb.trans (al.mono hb.size)) hkx))
            have HLA := Lib.hid hal
            have hb9 := hal.big
            unfold maxLen at hb9
            have HAU := Lib.hid hat
            clear hg d0' d1' d2' d3' d4' d5' hal hall hb hbw hkx al hat
            go_upto_region 11 with fail
            clear hix d0 d1 d2 d3 d4 d5
            generalize wr.alloc (.cells #[.string r.name, .slice so r.allow.length sc, .int .i64 r.expr.kind, .string r.expr.ta, .string r.expr.tb, .slice no r.expr.kids.length nc] tRl) = Z at *
            generalize wr.heap.size = RY at *
            obtain ⟨-, x1, -⟩ := box6 HC.out.2.2
            go_wp2_with fail
            clear x1
            go_loopw [59] (fun i wr => ∃ m : Nat, m ≤ r.allow.length ∧ i = .int .i64 m ∧ Hid (((r.allow.take m).all fun a => !same a.ty nm) = true) ∧ Below Z.heap.size Z wr) (fun i _ => r.allow.length - (intOf i).toNat)
            case atStart => exact ⟨0, by omega, rfl, Lib.hid rfl, Below.refl _ _⟩
            case round =>
              obtain ⟨m, hm, rfl, hall, hb⟩ := hrel
              have hbw := HC.out.1.trans (hb.mono HC.out.1.size)
              by_cases hmt : m < r.allow.length
              · obtain ⟨g, q, hix, hg, d0', d1', d2'⟩ := al_at HLA.out sc hmt
                have d0 := (hbw.cell (p := ⟨g, q, none⟩) hg).trans d0'
                have d1 := (hbw.cell (p := ⟨g, q + 1, none⟩) hg).trans d1'
                have d2 := (hbw.cell (p := ⟨g, q + 2, none⟩) hg).trans d2'
                have hat := fun h => all_take (p := fun a : Al => !same a.ty nm) hmt hall.out h
                generalize r.allow[m] = a at *
                have hkx := heap_alloc_new wr (.cells #[.string a.ty, .string a.rel, .bool a.wild] tAl)
                have al := Tr.fresh_one wr (.cells #[.string a.ty, .string a.rel, .bool a.wild] tAl)
                have HD := Lib.hid (And.intro (hbw.trans (al.mono hbw.size)) (And.intro (hb.trans (al.mono hb.size)) hkx))
                have HAV := Lib.hid hat
                clear hg d0' d1' d2' hall hb hbw hkx al hat
                go_upto_region 14 with fail
                clear hix d0 d1 d2
                generalize wr.alloc (.cells #[.string a.ty, .string a.rel, .bool a.wild] tAl) = V at *
                generalize wr.heap.size = RZ at *
                obtain ⟨x0, -, -⟩ := box3 HD.out.2.2
                cases hsm : same a.ty nm with
                | true =>
                  have e1 : (a.ty.toList == nm.toList) = true := hsm
                  clear hsm
                  go_wp2_with fail
                  go_ret
                  exact ⟨rfl, HD.out.1⟩
                | false =>
                  have e1 : (a.ty.toList == nm.toList) = false := hsm
                  have HE := Lib.hid (HAV.out (by rw [hsm]; rfl))
                  clear hsm HAV
                  go_wp2_with fail
                  go_roundw
                  case rel => exact ⟨m + 1, by omega, by go_num, HE, HD.out.2.1⟩
                  case measure => simp [intOf]; omega
              · have hm' : m = r.allow.length := by omega
                subst hm'
                have hh := hall.out
                rw [List.take_length] at hh
                have HE := Lib.hid (HAU.out hh)
                have HF := Lib.hid (HC.out.2.1.trans (hb.mono HC.out.2.1.size))
                clear hh hall hb hbw
                go_wp2_with fail
                go_roundw
                case rel => exact ⟨k + 1, by omega, by go_num, HE, HF.out⟩
                case measure => simp [intOf]; omega
          · have hk' : k = t.rels.length := by omega
            subst hk'
            have hh := hall.out
            rw [List.take_length] at hh
            have HE := Lib.hid (HAT2.out hh)
            have HF := Lib.hid (HB.out.2.1.trans (hb.mono HB.out.2.1.size))
            clear hh hall hb hbw
            go_wp2_with fail
            go_roundw
            case rel => exact ⟨j + 1, by omega, by go_num, HE, HF.out⟩
            case measure => simp [intOf]; omega
    · have hj' : j = l.length := by omega
      subst hj'
      have hh := hall.out
      rw [List.take_length] at hh
      have HAp := Lib.hid (apart_of HQ.out.2.2.2.2.2.1 hh)
      have H4 := Lib.hid (And.intro hbw ((hb.block _ (Array.getElem?_eq_some_iff.1 H3.out.2).1).trans H3.out.2))
      clear hh hall hb hbw H3
      have b0 := box1 H4.out.2
      go_wp2_with fail
      refine (HP.out _ H4.out.1).mono ?_
      rintro e y2 ⟨u, t, r, code, S, its, rfl, hck, hpi, hx⟩
      have al := Tr.fresh_one y2 (.cells #[.string t, .string r] 29)
      have hk1 := heap_alloc_new y2 (.cells #[.string t, .string r] 29)
      have hbx := hx.trans (al.mono hx.size)
      have H5 := Lib.hid (And.intro (H4.out.1.trans (hbx.mono H4.out.1.size)) (And.intro ((hbx.block _ (Array.getElem?_eq_some_iff.1 H4.out.2).1).trans H4.out.2) (And.intro hk1 (hpi.below al))))
      have HCo := Lib.hid hck
      clear hck hpi hx al hbx hk1 b0 H4 HP
      go_upto_region 20 with fail
      generalize y2.alloc (.cells #[.string t, .string r] 29) = Y at *
      generalize y2.heap.size = RS at *
      have alE := Tr.fresh_one Y (.cells #[] tTy)
      have hkE := heap_alloc_new Y (.cells #[] tTy)
      have hbE := H5.out.1.trans (alE.mono H5.out.1.size)
      have b0 := box1 ((alE.block _ (Array.getElem?_eq_some_iff.1 H5.out.2.1).1).trans H5.out.2.1)
      have HO := Lib.hid (show (Y.alloc (.cells #[] tTy)).ownsRow Y.heap.size tTy 2 (.slice (some ⟨Y.heap.size, 0, none⟩) 0 0) 0 [] from ⟨rfl, .inr ⟨_, 0, #[], rfl, Nat.le_refl _, hkE, Nat.le_refl _, Nat.zero_le _, rfl, rfl⟩⟩)
      have HE0 := Lib.hid (And.intro alE (And.intro alE.size (And.intro (HL.out.on hbE fun _ _ h => h.below hbE) hbE)))
      have hn9 : l.length ≤ 1000 := by omega
      clear alE hkE hbE
      go_wp2_with (at_builtin; refine walk_lies rfl _ _ rfl rfl rfl HO.out HE0.out.2.1 HE0.out.2.2.1 hn9 ?_)
      intro v1 y3 ho3 hb3
      have hY3 : Y.heap.size ≤ y3.heap.size := Nat.le_trans HE0.out.1.size hb3.size
      have hbY := HE0.out.1.trans (hb3.mono (Nat.le_refl _))
      have HTh := Lib.hid (three y3 nm)
      obtain ⟨ti, tz, tb, TE, hT⟩ := elT
      have HTE := Lib.hid (And.intro TE hT)
      have HY3 := Lib.hid (And.intro hY3 (And.intro hbY ho3))
      have HJ := Lib.hid (And.intro (Tr.own_below ho3 (three y3 nm).1) (show Y.heap.size ≤ _ from Nat.le_trans hY3 (three y3 nm).1.size))
      clear ho3 hb3 hY3 hbY TE hT b0
      go_wp2_with (at_builtin; refine walk_rows HTE.out.1 rfl _ _ rfl rfl rfl HJ.out.1 HJ.out.2 (m := 1) rfl (new_cells _ _ [.string nm, .slice (some ⟨y3.heap.size + 1, 0, none⟩) 1 1] (by simp)) (by intro u' hu'; simp at hu'; rcases hu' with rfl | rfl <;> rfl) (by omega) (Nat.le_trans (Nat.mul_le_mul_left _ HTE.out.2) (by omega)) ?_)
      intro v2 y4 ho4 gr4 n4
      have hlt4 := fun k hk => HY3.out.2.2.lt k hk
      have hb4 : Below Y.heap.size Y y4 := (HY3.out.2.1.trans (HTh.out.1.mono HY3.out.1)).grown gr4 HJ.out.2 fun k hk => (hlt4 k hk).1
      have hA4 := (gr4.block y3.heap.size (by rw [HTh.out.2.1]; omega) (fun e => by have := (hlt4 _ e.symm).2; omega)).trans HTh.out.2.2.1
      have hR4 := (gr4.block (y3.heap.size + 1) (by rw [HTh.out.2.1]; omega) (fun e => by have := (hlt4 _ e.symm).2; omega)).trans HTh.out.2.2.2
      have hw4 := H5.out.1.trans (hb4.mono H5.out.1.size)
      obtain ⟨ao2, cap2, rfl, hcf⟩ := wide_is HL.out hw4 ho4 hR4 hA4
      have al := Tr.fresh_one y4 (.cells #[.slice ao2 (l.length + 1) cap2] tCf)
      have hb5 := hb4.trans (al.mono hb4.size)
      have HB5 := Lib.hid (And.intro hb5 (And.intro (H5.out.1.trans (hb5.mono H5.out.1.size)) (hcf.below al)))
      have b0 := box1 (heap_alloc_new y4 (.cells #[.slice ao2 (l.length + 1) cap2] tCf))
      clear hlt4 hb4 hA4 hR4 hw4 hcf al hb5 ho4 gr4 n4 HTh HTE HY3 HJ HE0 HO
      go_upto_region 21 with fail
      generalize y4.alloc (.cells #[.slice ao2 (l.length + 1) cap2] tCf) = V at *
      have HW := Lib.hid (show Calls Tryz.prog 10 #[.agg #[.slice ao2 (l.length + 1) cap2]] V (CkPost (l ++ [ownT nm]) V) from by
        obtain ⟨HCk, hs, hsc, hsl, hit, -, -, -⟩ := HQ.out
        obtain ⟨a1, a2, a3, a4⟩ := wide_fits HAp.out hs hsc hsl hit
        exact HCk _ _ _ HB5.out.2.2 a1 a2 a3 a4)
      go_wp2_with fail
      clear b0
      refine HW.out.mono ?_
      rintro e y5 ⟨u2, t2, r2, code2, S2, its2, rfl, hck, hpi, hx⟩
      obtain ⟨e1, e2, e3, e4⟩ := step_at HAp.out h6 HCo.out hck
      subst e1
      subst e2
      subst e3
      have al := Tr.fresh_one y5 (.cells #[.string t, .string r] 29)
      have hk5 := heap_alloc_new y5 (.cells #[.string t, .string r] 29)
      have hxv := hx.trans (al.mono hx.size)
      have hxy := HB5.out.1.trans (hxv.mono HB5.out.1.size)
      have H6 := Lib.hid (And.intro (HB5.out.2.1.trans (hxv.mono HB5.out.2.1.size)) (And.intro (H5.out.2.2.2.below hxy) (And.intro (hpi.below al) (And.intro hk5 ((hxy.block _ (Array.getElem?_eq_some_iff.1 H5.out.2.2.1).1).trans H5.out.2.2.1)))))
      have hil := HCo.out.few (by have := HQ.out.2.2.2.2.1; omega)
      have HE4 := Lib.hid e4
      clear al hk5 hxv hxy hx hpi hck e4 HB5 HW HCo H5
      go_upto_region 22 with fail
      generalize y5.alloc (.cells #[.string t, .string r] 29) = X at *
      generalize y5.heap.size = RT at *
      by_cases hc0 : code = 0
      case neg =>
        have e1 : (code != 0) = true := by simpa using hc0
        obtain ⟨x0, x1⟩ := box2 H6.out.2.2.2.1
        obtain ⟨z0, z1⟩ := box2 H6.out.2.2.2.2
        have sps := spot_same t r
        go_wp2_with fail
        go_ret
        exact ⟨rfl, H6.out.1⟩
      subst hc0
      obtain ⟨rfl, hS, hS0⟩ := HE4.out rfl
      obtain ⟨pao, pcap, rfl, -⟩ := id H6.out.2.1
      obtain ⟨mao, mcap, rfl, -⟩ := id H6.out.2.2.1
      have hlen : (its ++ [(nm, ownN)]).length = its.length + 1 := by rw [List.length_append, List.length_singleton]
      have hM := H6.out.2.2.1
      rw [hlen] at hM ⊢
      have H7 := Lib.hid (And.intro H6.out.1 (And.intro H6.out.2.1 hM))
      have HSS := Lib.hid hS
      obtain ⟨gM, iM, -, -, -, ⟨m0, m1, m2⟩, -⟩ := hM.at (j := its.length) (by rw [hlen]; omega) (Nat.zero_le _)
      rw [hS0] at m2
      rw [show (its ++ [(nm, ownN)])[its.length] = (nm, ownN) by simp] at m0 m1
      have e2 : (((its.length + 1 : Nat) : Int) != wrap64 ((its.length : Int) + 1)) = false := by
        rw [show wrap64 ((its.length : Int) + 1) = ((its.length + 1 : Nat) : Int) from by unfold wrap64; omega]
        simp
      have hon : ownN.toList = [111, 119, 110] := by rw [Lib.toList_data]; rfl
      have HNE := Lib.hid pit_ne
      clear H6 hM HE4 hS hS0
      go_wp2_with fail
      clear iM m0 m1 m2 e2 hon
      go_loopw [129] (fun i wr => ∃ j : Nat, j ≤ its.length ∧ i = .int .i64 j ∧ Below X.heap.size X wr) (fun i _ => its.length - (intOf i).toNat)
      case atStart => exact ⟨0, by omega, rfl, Below.refl _ _⟩
      case round =>
        obtain ⟨j, hj, rfl, hb⟩ := hrel
        by_cases hlt : j < its.length
        · obtain ⟨gP, iP, -, lP, -, ⟨a0, a1, a2⟩, -⟩ := (H7.out.2.1.below hb).at hlt (Nat.zero_le j)
          obtain ⟨gQ, iQ, -, lQ, -, ⟨d0, d1, d2⟩, -⟩ := (H7.out.2.2.below hb).at (j := j) (by rw [hlen]; omega) (Nat.zero_le j)
          rw [HSS.out j hlt] at a2
          rw [List.getElem_append_left hlt] at d0 d1
          have HI := Lib.hid (HNE.out its[j].1 its[j].2 (S2 j))
          have HX := Lib.hid (show ∀ x, Below wr.heap.size wr x → (x.cell? ⟨gP, j * 3, none⟩ = some (.string its[j].1) ∧ x.cell? ⟨gP, j * 3 + 1, none⟩ = some (.string its[j].2) ∧ x.cell? ⟨gP, j * 3 + 2, none⟩ = some (.int .i64 (S2 j))) ∧ x.cell? ⟨gQ, j * 3, none⟩ = some (.string its[j].1) ∧ x.cell? ⟨gQ, j * 3 + 1, none⟩ = some (.string its[j].2) ∧ x.cell? ⟨gQ, j * 3 + 2, none⟩ = some (.int .i64 (S2 j)) from fun x hx =>
            ⟨⟨(hx.cell (p := ⟨gP, j * 3, none⟩) lP).trans a0, (hx.cell (p := ⟨gP, j * 3 + 1, none⟩) lP).trans a1, (hx.cell (p := ⟨gP, j * 3 + 2, none⟩) lP).trans a2⟩, (hx.cell (p := ⟨gQ, j * 3, none⟩) lQ).trans d0, (hx.cell (p := ⟨gQ, j * 3 + 1, none⟩) lQ).trans d1, (hx.cell (p := ⟨gQ, j * 3 + 2, none⟩) lQ).trans d2⟩)
          have HB := Lib.hid hb
          clear a0 a1 a2 d0 d1 d2 lP lQ hb
          go_wp2_with fail
          refine wp_region_class (C := fun x => Below wr.heap.size wr x) (by kernel_rfl) (by kernel_rfl) (Below.refl _ _).drew ?_
          repeat (first
            | go_big_quiet_skip
            | (go_big_quiet_want
               apply quiet_of
               · intro x hx
                 obtain ⟨⟨a0, a1, a2⟩, d0, d1, d2⟩ := HX.out x hx
                 have hne := HI.out
                 go_simp; rfl
               simp only [Act.put, List.setIfInBounds_toArray, List.set_cons_zero, List.set_cons_succ]
               go_big_quiet_on))
          refine wpQuiet_nil ?_
          intro x hx
          have HN := Lib.hid (HB.out.trans (hx.mono HB.out.size))
          clear hx HX HB iP iQ
          go_wp2_with fail
          go_roundw
          case rel => exact ⟨j + 1, by omega, by go_num, HN.out⟩
          case measure => simp [intOf]; omega
        · have hj' : j = its.length := by omega
          subst hj'
          have HB := Lib.hid (H7.out.1.trans (hb.mono H7.out.1.size))
          clear hb
          go_wp2_with fail
          go_ret
          exact ⟨rfl, HB.out⟩
/-- The statement's walk, upon what the program's Check answers. -/
theorem walk_of (HCk : CheckOk) (l : List Ty) (nm : ByteArray) (v : Value) (w : World) (hn : IsCf w l v) (hs : ShortC l) (ha : ∀ t ∈ l, ∀ r ∈ t.rels, r.allow.length ≤ 281474976710656) (hm : nm.size ≤ maxLen) {a0 a1 : Addr} (hg : Gr.Glob a0 a1 w) :
    Calls Tryz.prog 6 #[v, .string nm] w fun e x => e = .returned (.bool true) ∧ Below w.heap.size w x := by
  by_cases hz : few9 l = true ∧ Tr.word nm = true ∧ l.length < 6
  · exact near HCk l nm v w hn hs ha hm hz.1 hz.2.1 hz.2.2 fun x hx => awake_any HCk (hg.below hx)
  · exact far l nm v w hn ha hm hz fun x hx => awake_any HCk (hg.below hx)
end LawL9More
end Go.Proofs.YticcldohgbpcbaaGreatDoor

namespace Go.Proofs.YticcldohgbpcbaaGreatDoor
open Go.RowKit
open Gr (Ty IsCf)
open Cn (ShortC)
theorem LawL9More.walk (l : List Ty) (v : Value) (nm : ByteArray) (w : World) (hn : IsCf w l v) (hs : ShortC l) (ha : ∀ t ∈ l, ∀ r ∈ t.rels, r.allow.length ≤ 281474976710656) (hm : nm.size ≤ maxLen) {a0 a1 : Addr} (hg : Gr.Glob a0 a1 w) :
    Calls Tryz.prog 6 #[v, .string nm] w fun e x => e = .returned (.bool true) ∧ Below w.heap.size w x := LawL9More.walk_of Ly.check_ok l nm v w hn hs ha hm hg
end Go.Proofs.YticcldohgbpcbaaGreatDoor
