/-
  Layer 9, pure: configurations of one type whose relations only allow users.
-/
import Derived.Test.YtopncohhagebbaaGreatDoorLgS
namespace Go.Proofs.YtopncohhagebbaaGreatDoor
open Go.RowKit
namespace Lt
open Tr (Nd none0 size refs direct Rf)
open Gr (Al Rl Ty)
open Cn (gC gT gR gA)

def userN : ByteArray := ⟨#[117, 115, 101, 114]⟩
def tN : ByteArray := ⟨#[116]⟩
def zzN : ByteArray := ⟨#[122, 122]⟩
def zzzN : ByteArray := ⟨#[122, 122, 122]⟩
def lessR (s : ByteArray) : Rl := ⟨s, [⟨userN, none0, false⟩], .mk 1 none0 none0 []⟩
def zzR : Rl := ⟨zzN, [], .mk 2 zzzN none0 []⟩
def lessT (ns : List ByteArray) (more : List Rl) : Ty := ⟨tN, ns.map lessR ++ more⟩
def lessC (ns : List ByteArray) (more : List Rl) : List Ty := [⟨userN, []⟩, lessT ns more]
def dupN : List ByteArray → List ByteArray → Bool
  | _, [] => false
  | pre, s :: m => (pre.any fun x => same x s) || dupN (pre ++ [s]) m
theorem user_t : same userN tN = false := by rw [same, Lib.toList_data, Lib.toList_data]; decide
section
variable {ns : List ByteArray} {more : List Rl}
theorem take_pre (pre m : List ByteArray) : ((pre ++ m).map lessR ++ more).take pre.length = pre.map lessR := by
  rw [List.map_append, List.append_assoc, List.take_left' (by simp)]
theorem relP_less {t : Ty} {i : Nat} {s : ByteArray} : relP (lessC ns more) t i (lessR s) = if (t.rels.take i).any (fun x => same x.name s) then 14 else 0 := by
  have h1 : lost (lessC ns more) ⟨userN, none0, false⟩ = false := by
    have : ((lessC ns more).any fun t => same t.name userN) = true := List.any_eq_true.2 ⟨⟨userN, []⟩, by simp [lessC], same_self userN⟩
    rw [lost, this]
    show (!true || (!none0.toList.isEmpty && !has (lessC ns more) userN none0)) = false
    rw [Lib.toList_data]
    rfl
  have h2 : allowedP (lessC ns more) (lessR s) = 0 := by
    rw [allowedP, if_neg]
    show ¬ ([⟨userN, none0, false⟩].any (lost (lessC ns more)) = true)
    rw [List.any_cons, h1]; simp
  have h4 : (direct (lessR s).expr false false || direct (lessR s).expr true false) = true := rfl
  rw [relP, h2, h4, if_neg (by simp [lessR])]
  by_cases h : (t.rels.take i).any (fun x => same x.name (lessR s).name) = true
  · rw [if_pos h, if_pos (by exact h)]
  · rw [if_neg h, if_neg (by simp [lessR, twice]), if_neg (by simp [lessR]), if_neg (by simp)]
    show (0 : Int) = _
    exact (if_neg h).symm
theorem relsP_less {t : Ty} : ∀ (m pre : List ByteArray), t.rels = (pre ++ m).map lessR ++ more →
    (dupN pre m = true → (relsP (lessC ns more) t pre.length (m.map lessR ++ more)).2.2 = 14) ∧ (dupN pre m = false → relsP (lessC ns more) t pre.length (m.map lessR ++ more) = relsP (lessC ns more) t (pre ++ m).length more) := by
  intro m
  induction m with
  | nil => intro pre _; exact ⟨fun h => by simp [dupN] at h, fun _ => by simp⟩
  | cons s m ih =>
    intro pre ht
    have h1 : (t.rels.take pre.length).any (fun x => same x.name s) = pre.any fun x => same x s := by
      rw [ht, take_pre, List.any_map]
      rfl
    have h2 := ih (pre ++ [s]) (by rw [ht]; simp)
    rw [List.length_append, List.length_singleton] at h2
    rw [List.map_cons, List.cons_append, relsP, relP_less, h1, dupN]
    cases hp : pre.any fun x => same x s with
    | true => exact ⟨fun _ => by simp, fun h => by simp at h⟩
    | false =>
      simp only [Bool.false_or, Bool.false_eq_true, if_false, ne_eq, not_true_eq_false]
      refine ⟨h2.1, fun h => ?_⟩
      rw [h2.2 h]
      simp
theorem names_less (h8 : (lessT ns more).rels.length ≤ 8) :
    (dupN [] ns = true → (namesP (lessC ns more)).2.2 = 14) ∧
    (dupN [] ns = false → (relsP (lessC ns more) (lessT ns more) ns.length more).2.2 ≠ 0 → namesP (lessC ns more) = relsP (lessC ns more) (lessT ns more) ns.length more) ∧
    (dupN [] ns = false → (relsP (lessC ns more) (lessT ns more) ns.length more).2.2 = 0 → (namesP (lessC ns more)).2.2 = 0) := by
  have h0 : (typeP (lessC ns more) 0 ⟨userN, []⟩).2.2 = 0 := by
    rw [typeP, if_neg (by simp), if_neg (by simp)]
    rfl
  have h1 : typeP (lessC ns more) 1 (lessT ns more) = relsP (lessC ns more) (lessT ns more) 0 (ns.map lessR ++ more) := by
    rw [typeP, if_neg (by omega), if_neg]
    · rfl
    · show ¬ ([(⟨userN, []⟩ : Ty)].any fun x => same x.name tN) = true
      rw [List.any_cons, user_t]; simp
  have h2 := relsP_less (ns := ns) (more := more) (t := lessT ns more) ns [] rfl
  have h3 : namesP (lessC ns more) = if (relsP (lessC ns more) (lessT ns more) 0 (ns.map lessR ++ more)).2.2 ≠ 0 then relsP (lessC ns more) (lessT ns more) 0 (ns.map lessR ++ more) else (none0, none0, 0) := by
    rw [namesP, if_neg (by simp [lessC])]
    show typesW (lessC ns more) 0 [⟨userN, []⟩, lessT ns more] = _
    rw [typesW, if_neg (by rw [h0]; simp), typesW, h1, typesW]
  simp only [List.length_nil, List.nil_append] at h2
  refine ⟨fun h => ?_, fun h hr => ?_, fun h hr => ?_⟩
  · rw [h3, if_pos (by rw [h2.1 h]; decide), h2.1 h]
  · rw [h3, h2.2 h, if_pos hr]
  · rw [h3, h2.2 h, if_neg (by rw [hr]; simp)]
theorem good_less (hw : ∀ s ∈ ns, Tr.word s = true) (hm : more.all gR = true) : gC (lessC ns more) = true := by
  have h1 : (ns.map lessR).all gR = true := by
    rw [List.all_eq_true]
    intro r hr
    obtain ⟨s, hs, rfl⟩ := List.mem_map.1 hr
    rw [gR, Bool.and_eq_true, Bool.and_eq_true]
    refine ⟨⟨hw s hs, show (Tr.errOf (.mk 1 none0 none0 []) == 0) = true by decide +kernel⟩, ?_⟩
    show List.all [⟨userN, none0, false⟩] gA = true
    decide +kernel
  have h2 : gT ⟨userN, []⟩ = true := by decide +kernel
  have h3 : gT (lessT ns more) = true := by
    rw [gT, Bool.and_eq_true]
    refine ⟨show Tr.word tN = true by decide +kernel, ?_⟩
    show (ns.map lessR ++ more).all gR = true
    rw [List.all_append, h1, hm]; rfl
  show List.all [⟨userN, []⟩, lessT ns more] gT = true
  rw [List.all_cons, List.all_cons, h2, h3]; rfl
theorem CheckOut.less_dup (hg : gC (lessC ns more) = true) (h8 : (lessT ns more).rels.length ≤ 8) (hd : dupN [] ns = true) {S : Nat → Int} {t r : ByteArray} {code : Int} {its : List It} (h : CheckOut (lessC ns more) S t r code its) : code = 14 := by
  have hn := (names_less h8).1 hd
  rcases h with ⟨a, -⟩ | ⟨-, -, -, -, -, e⟩ | ⟨-, e, -⟩ | ⟨-, e, -⟩
  · rw [hg] at a; cases a
  · rw [e, hn]
  · rw [hn] at e; cases e
  · rw [hn] at e; cases e
theorem less_rel {ty r : ByteArray} : (((relC (lessC ns []) ty r).getD zR).allow = [] ∨ ((relC (lessC ns []) ty r).getD zR).allow = [⟨userN, none0, false⟩]) ∧ refs ((relC (lessC ns []) ty r).getD zR).expr false = [] := by
  cases h : relC (lessC ns []) ty r with
  | none => exact ⟨.inl rfl, rfl⟩
  | some v =>
    obtain ⟨t, ht, hv⟩ := relC_mem h
    have ht' : t = ⟨userN, []⟩ ∨ t = lessT ns [] := by simpa [lessC] using ht
    rcases ht' with rfl | rfl
    · cases hv
    · have hv' : v ∈ ns.map lessR := by simpa [lessT] using hv
      obtain ⟨s, -, rfl⟩ := List.mem_map.1 hv'
      exact ⟨.inr rfl, rfl⟩
theorem less_items : items (lessC ns []) = ns.map fun s => (tN, s) := by
  have : (lessT ns []).rels = ns.map lessR := by simp [lessT]
  rw [items, lessC, List.flatMap_cons, List.flatMap_cons, List.flatMap_nil, List.append_nil, itemsT, itemsT, this, List.map_map]
  rfl
theorem less_edge (i k : Nat) : edge (lessC ns []) i k = -1 := by
  rw [edge]
  split
  · rename_i a b _ hb
    have hbt : b.1 = tN := by
      rw [less_items] at hb
      obtain ⟨s, -, rfl⟩ := List.mem_map.1 (List.mem_of_getElem? hb)
      rfl
    have hh : ∀ odd, hangs (lessC ns []) a b odd = false := fun odd => by
      obtain ⟨h1, h2⟩ := less_rel (ns := ns) (ty := a.1) (r := a.2)
      have h3 : (((relC (lessC ns []) a.1 a.2).getD zR).allow.any fun x => allowTo x b) = false := by
        rcases h1 with h1 | h1 <;> rw [h1]
        · rfl
        · rw [List.any_cons, allowTo]
          show (same userN b.1 && _ || _) = false
          rw [hbt, user_t]; rfl
      rw [hangs, h3, h2]
      rfl
    rw [edgeI, hh, hh]
    rfl
  · rfl
theorem less_way {n i k : Nat} {L : List Nat} (h : Way n (edge (lessC ns [])) i k L) : False := by
  induction h with
  | even _ _ h => rw [less_edge] at h; cases h
  | odd _ _ h => rw [less_edge] at h; cases h
  | join _ _ a _ => exact a
theorem CheckOut.less_fine (hg : gC (lessC ns []) = true) (h8 : ns.length ≤ 8) (hd : dupN [] ns = false) {S : Nat → Int} {t r : ByteArray} {code : Int} {its : List It} (h : CheckOut (lessC ns []) S t r code its) : code = 0 ∧ its.length = ns.length := by
  have hn := (names_less (ns := ns) (more := []) (by simpa [lessT] using h8)).2.2 hd rfl
  rcases h with ⟨a, -⟩ | ⟨-, e, -⟩ | ⟨-, -, -, -, i, a, -, -, -, ⟨L, hw, -⟩, -⟩ | ⟨-, -, e, ec, -⟩
  · rw [hg] at a; cases a
  · exact absurd hn e
  · exact (less_way hw).elim
  · exact ⟨ec, by rw [e, less_items, List.length_map]⟩
theorem CheckOut.less_zz (hg : gC (lessC ns [zzR]) = true) (h8 : ns.length ≤ 7) (hd : dupN [] ns = false) (hz : (ns.any fun x => same x zzN) = false) (hz2 : (ns.any fun x => same x zzzN) = false)
    {S : Nat → Int} {t r : ByteArray} {code : Int} {its : List It} (h : CheckOut (lessC ns [zzR]) S t r code its) : code = 13 ∧ t = tN ∧ r = zzN := by
  have hfind : (ns.map lessR ++ [zzR]).find? (fun x => same x.name zzzN) = none := by
    rw [List.find?_eq_none]
    intro x hx
    rcases List.mem_append.1 hx with hx | hx
    · obtain ⟨s, hs, rfl⟩ := List.mem_map.1 hx
      have := List.any_eq_false.1 hz2 s hs
      exact this
    · rw [List.mem_singleton] at hx; subst hx
      show ¬ same zzN zzzN = true
      rw [same, Lib.toList_data, Lib.toList_data]; decide
  have hno : has (lessC ns [zzR]) tN zzzN = false := by
    rw [has]
    show (relC [⟨userN, []⟩, lessT ns [zzR]] tN zzzN).isSome = false
    rw [relC, relC, relC, relT, relT, if_neg (by rw [user_t]; decide)]
    show (Option.or none (Option.or (if same tN tN = true then (ns.map lessR ++ [zzR]).find? (fun x => same x.name zzzN) else none) none)).isSome = false
    rw [if_pos (same_self tN), hfind]; rfl
  have hp : relP (lessC ns [zzR]) (lessT ns [zzR]) ns.length zzR = 13 := by
    have h1 : ((lessT ns [zzR]).rels.take ns.length).any (fun x => same x.name zzR.name) = false := by
      have := take_pre (more := [zzR]) ns []
      rw [List.append_nil] at this
      show (((ns.map lessR ++ [zzR]).take ns.length).any fun x => same x.name zzN) = false
      rw [this, List.any_map]
      exact hz
    have h2 : allowedP (lessC ns [zzR]) zzR = 0 := rfl
    have h3 : (direct zzR.expr false false || direct zzR.expr true false) = false := rfl
    have h4 : refs zzR.expr false = [⟨none0, zzzN, false⟩] := rfl
    have h5 : refP (lessC ns [zzR]) tN ⟨none0, zzzN, false⟩ = 13 := by
      rw [refP, if_pos (by show none0.toList.isEmpty = true; rw [Lib.toList_data]; rfl)]
      show (if has (lessC ns [zzR]) tN zzzN then (0 : Int) else 13) = 13
      rw [hno]; rfl
    rw [relP, if_neg (by simp [zzR]), h1, h2, h3, h4, if_neg (by simp), if_neg (by simp [zzR, twice]), if_neg (by simp [zzR]), if_neg (by simp)]
    show first (refP (lessC ns [zzR]) tN) [⟨none0, zzzN, false⟩] = 13
    rw [first, h5]
    rfl
  have hr : relsP (lessC ns [zzR]) (lessT ns [zzR]) ns.length [zzR] = (tN, zzN, 13) := by
    rw [relsP, hp, if_pos (by decide)]
    rfl
  have hn := (names_less (ns := ns) (more := [zzR]) (by simp [lessT]; omega)).2.1 hd (by rw [hr]; decide)
  rw [hr] at hn
  rcases h with ⟨a, -⟩ | ⟨-, -, -, e1, e2, e3⟩ | ⟨-, e, -⟩ | ⟨-, e, -⟩
  · rw [hg] at a; cases a
  · rw [hn] at e1 e2 e3; exact ⟨e3, e1, e2⟩
  · rw [hn] at e; cases e
  · rw [hn] at e; cases e
end
end Lt
end Go.Proofs.YtopncohhagebbaaGreatDoor
