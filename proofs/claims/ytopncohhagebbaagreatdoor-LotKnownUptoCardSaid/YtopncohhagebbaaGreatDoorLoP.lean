/-
  Layer 11: lists of tuples that lie in memory.
  Layer 11, pure: what Fit, Unfit, Known and Direct are to answer.
  Layer 11: slices.IndexFunc and slices.ContainsFunc, for any function that answers whether something is so of an element.
  Layer 11's program, first part: what is looked for by closures: find, hasType, hasRel, allows.
  Layer 11's program, second part: Fit, Unfit, Known.
-/
import Derived.Test.YtopncohhagebbaaGreatDoorMgMem
import Derived.Test.YtopncohhagebbaaGreatDoorBgA
import Derived.Test.YtopncohhagebbaaGreatDoorLgA
import Derived.Test.YtopncohhagebbaaGreatDoorCnDef
import Derived.Test.YtopncohhagebbaaGreatDoorGrSame
import Derived.Test.YtopncohhagebbaaGreatDoorLgE
import Derived.Test.YtopncohhagebbaaGreatDoorBgB
import Derived.Deep.DeepCutAuto
namespace Go.Proofs.YtopncohhagebbaaGreatDoor
open Go.RowKit
namespace Lo
open Knot (Turns)
open Bond (L3)
open Who (bs bs_self)

def cells6 (p : L3 × L3) : List Value := [.string (bs p.1.1), .string (bs p.1.2.1), .string (bs p.1.2.2), .string (bs p.2.1), .string (bs p.2.2.1), .string (bs p.2.2.2)]
abbrev agg6 (p : L3 × L3) : Value := .agg #[.string (bs p.1.1), .string (bs p.1.2.1), .string (bs p.1.2.2), .string (bs p.2.1), .string (bs p.2.2.1), .string (bs p.2.2.2)]
abbrev agg3 (y : L3) : Value := .agg #[.string (bs y.1), .string (bs y.2.1), .string (bs y.2.2)]
/-- A list of tuples that lies in memory. -/
def IsTups (w : World) (v : Value) (l : List (L3 × L3)) : Prop :=
  ∃ ao cap, v = .slice ao l.length cap ∧ (l ≠ [] → ∃ b o, ao = some ⟨b, o, none⟩ ∧ ∀ (i : Nat) (h : i < l.length) (j : Nat) (u : Value), (cells6 l[i])[j]? = some u → w.cell? ⟨b, o + i * 6 + j, none⟩ = some u)
theorem IsTups.turn {w x : World} {F : Nat → Prop} {v : Value} {l : List (L3 × L3)} (h : IsTups w v l) (ht : Turns F w x) (hF : ∀ k, v.ownBlock = some k → ¬ F k) : IsTups x v l := by
  obtain ⟨ao, cap, rfl, hc⟩ := h
  refine ⟨ao, cap, rfl, fun hl => ?_⟩
  obtain ⟨b, o, rfl, hd⟩ := hc hl
  refine ⟨b, o, rfl, fun i hi j u hu => ?_⟩
  have h1 := hd i hi j u hu
  exact (ht.cell (p := ⟨b, o + i * 6 + j, none⟩) (World.block_lt_of_cell? w _ h1) (hF b rfl)).trans h1
theorem IsTups.below {w x : World} {v : Value} {l : List (L3 × L3)} (h : IsTups w v l) (hb : Below w.heap.size w x) : IsTups x v l := h.turn (F := fun _ => False) (Turns.of_below hb) fun _ _ h => h
theorem IsTups.len {w : World} {v : Value} {l : List (L3 × L3)} (h : IsTups w v l) : ∃ ao c, v = .slice ao l.length c := by
  obtain ⟨ao, cap, hv, -⟩ := h
  exact ⟨ao, cap, hv⟩
theorem elemT : Tryz.prog.underlying 53 = some (.slice (Tryz.prog.elem 53)) := by kernel_rfl
theorem sizeT : ∀ w, (sizeOf (Tryz.prog.elem 53)).run Tryz.prog w = .ok 6 w := fun w => by kernel_rfl
/-- Where a tuple of the list lies, and its cells. -/
theorem IsTups.at {w : World} {v : Value} {l : List (L3 × L3)} (h : IsTups w v l) {i : Nat} (hi : i < l.length) : ∃ b q, (∀ W, (Instr.indexAt 53 v (.int .i64 (i : Int))).run Tryz.prog W = .ok (.pointer (some ⟨b, q, none⟩)) W) ∧ b < w.heap.size ∧ v.ownBlock = some b ∧
    w.cell? ⟨b, q, none⟩ = some (.string (bs l[i].1.1)) ∧ w.cell? ⟨b, q + 1, none⟩ = some (.string (bs l[i].1.2.1)) ∧ w.cell? ⟨b, q + 2, none⟩ = some (.string (bs l[i].1.2.2)) ∧
    w.cell? ⟨b, q + 3, none⟩ = some (.string (bs l[i].2.1)) ∧ w.cell? ⟨b, q + 4, none⟩ = some (.string (bs l[i].2.2.1)) ∧ w.cell? ⟨b, q + 5, none⟩ = some (.string (bs l[i].2.2.2)) := by
  obtain ⟨ao, cap, rfl, hc⟩ := h
  obtain ⟨b, o, rfl, hd⟩ := hc (fun e => by rw [e] at hi; simp at hi)
  have c0 := hd i hi 0 _ rfl
  refine ⟨b, o + i * 6, fun W => ?_, World.block_lt_of_cell? w _ c0, rfl, c0, hd i hi 1 _ rfl, hd i hi 2 _ rfl, hd i hi 3 _ rfl, hd i hi 4 _ rfl, hd i hi 5 _ rfl⟩
  rw [run_indexAt_slice W _ _ _ _ _ _ elemT, if_pos ⟨by omega, by omega⟩, sizeT]
  have e : ((i : Int)).toNat = i := by omega
  simp only [Result.andThen_ok, e, Addr.add_lit]
/-- The texts of a tuple are short. -/
def Fits (n : Nat) (p : L3 × L3) : Prop := (p.1.1.length ≤ n ∧ p.1.2.1.length ≤ n ∧ p.1.2.2.length ≤ n) ∧ p.2.1.length ≤ n ∧ p.2.2.1.length ≤ n ∧ p.2.2.2.length ≤ n
end Lo
end Go.Proofs.YtopncohhagebbaaGreatDoor

namespace Go.Proofs.YtopncohhagebbaaGreatDoor
open Go.RowKit
namespace Lo
open Tr (Nd none0)
open Gr (Al Rl Ty)
open Who (bs bs_self bs_list kind)
open Bond (L3 kind3 goodB)
open Lt (same same_iff relC relT zR)

/-- Where the first of a list is of which something is so; -1 if there is none. -/
def Idx {α : Type} (p : α → Bool) (l : List α) (z : Int) : Prop :=
  (l.any p = false ∧ z = -1) ∨ ∃ (j : Nat) (h : j < l.length), z = (j : Int) ∧ p l[j] = true ∧ (l.take j).any p = false
theorem Idx.is {α : Type} {p : α → Bool} {l : List α} {z : Int} (h : Idx p l z) : decide (0 ≤ z) = l.any p := by
  rcases h with ⟨h1, rfl⟩ | ⟨j, hj, rfl, h1, -⟩
  · rw [h1]; rfl
  · rw [List.any_eq_true.2 ⟨_, List.getElem_mem hj, h1⟩]
    simp
theorem idx_one {α : Type} {p : α → Bool} {l : List α} {z z' : Int} (h : Idx p l z) (k : Idx p l z') : z = z' := by
  have key : ∀ (i j : Nat) (hi : i < l.length), p l[i] = true → (l.take j).any p = false → ¬ i < j := fun i j hi h1 h2 h3 => by
    have h4 : l[i] ∈ l.take j := List.mem_take_iff_getElem.2 ⟨i, by omega, rfl⟩
    rw [List.any_eq_true.2 ⟨_, h4, h1⟩] at h2
    cases h2
  rcases h with ⟨h1, rfl⟩ | ⟨i, hi, rfl, h1, h2⟩
  · rcases k with ⟨-, rfl⟩ | ⟨j, hj, rfl, h3, -⟩
    · rfl
    · rw [List.any_eq_true.2 ⟨_, List.getElem_mem hj, h3⟩] at h1; cases h1
  · rcases k with ⟨h3, rfl⟩ | ⟨j, hj, rfl, h3, h4⟩
    · rw [List.any_eq_true.2 ⟨_, List.getElem_mem hi, h1⟩] at h3; cases h3
    · have a := key i j hi h1 h4
      have b := key j i hj h3 h2
      omega

theorem idx_nil {α : Type} (p : α → Bool) : Idx p [] (-1) := .inl ⟨rfl, rfl⟩
theorem idx_next {α : Type} {p : α → Bool} {l : List α} {j : Nat} {z : Int} (hj : j < l.length) (h : Idx p (l.take j) z) : Idx p (l.take (j + 1)) (if (p l[j] && decide (z < 0)) = true then (j : Int) else z) := by
  have e : l.take (j + 1) = l.take j ++ [l[j]] := List.take_succ_eq_append_getElem hj
  have hl : (l.take j).length = j := by rw [List.length_take]; omega
  rcases h with ⟨h1, rfl⟩ | ⟨k, hk, rfl, h1, h2⟩
  · cases hp : p l[j] with
    | true =>
      rw [if_pos (by decide)]
      refine .inr ⟨j, by rw [List.length_take]; omega, rfl, by rw [List.getElem_take]; exact hp, ?_⟩
      rw [List.take_take, Nat.min_eq_left (by omega)]
      exact h1
    | false =>
      rw [if_neg (by decide)]
      exact .inl ⟨by rw [e, List.any_append, h1, List.any_cons, hp]; rfl, rfl⟩
  · rw [if_neg (by simp)]
    rw [hl] at hk
    refine .inr ⟨k, by rw [List.length_take]; omega, rfl, by rw [List.getElem_take] at h1 ⊢; exact h1, ?_⟩
    rw [List.take_take, Nat.min_eq_left (by omega)] at h2 ⊢
    exact h2

def named (rl : ByteArray) (r : Rl) : Bool := same r.name rl
def hitT (ty rl : ByteArray) (t : Ty) : Bool := same t.name ty && t.rels.any (named rl)
def hasT (l : List Ty) (a : ByteArray) : Bool := l.any fun t => same t.name a
theorem relT_not {t : Ty} {ty rl : ByteArray} (h : hitT ty rl t = false) : relT t ty rl = none := by
  rw [relT]
  split
  · rename_i h1
    rw [hitT, h1, Bool.true_and] at h
    rw [List.find?_eq_none]
    intro r hr hc
    rw [List.any_eq_true.2 ⟨r, hr, hc⟩] at h
    cases h
  · rfl
theorem relC_not : ∀ {l : List Ty} {ty rl : ByteArray}, l.any (hitT ty rl) = false → relC l ty rl = none
  | [], _, _, _ => rfl
  | t :: l, ty, rl, h => by
    rw [List.any_cons, Bool.or_eq_false_iff] at h
    rw [relC, relT_not h.1, relC_not h.2]
    rfl
theorem find_at {α : Type} {p : α → Bool} {l : List α} {k : Nat} (hk : k < l.length) (h : p l[k] = true) (h0 : (l.take k).any p = false) : l.find? p = some l[k] := by
  have e : l.find? p = (l.take k ++ (l[k] :: l.drop (k + 1))).find? p := by rw [← List.drop_eq_getElem_cons hk, List.take_append_drop]
  have hn : (l.take k).find? p = none := by
    rw [List.find?_eq_none]
    intro r hr hc
    rw [List.any_eq_true.2 ⟨r, hr, hc⟩] at h0
    cases h0
  rw [e, List.find?_append, hn, List.find?_cons, h]
  rfl
theorem relC_hit {l : List Ty} {ty rl : ByteArray} {j k : Nat} (hj : j < l.length) (h1 : hitT ty rl l[j] = true) (h2 : (l.take j).any (hitT ty rl) = false) (hk : k < l[j].rels.length) (h3 : named rl l[j].rels[k] = true) (h4 : (l[j].rels.take k).any (named rl) = false) : relC l ty rl = some l[j].rels[k] := by
  have e : relC l ty rl = relC (l.take j ++ (l[j] :: l.drop (j + 1))) ty rl := by rw [← List.drop_eq_getElem_cons hj, List.take_append_drop]
  have hs : same l[j].name ty = true := by
    rw [hitT, Bool.and_eq_true] at h1
    exact h1.1
  rw [e, Lt.relC_append, relC_not h2, relC, relT, if_pos hs, show (fun x : Rl => same x.name rl) = named rl from rfl, find_at hk h3 h4]
  rfl

/-- What a relation allows: by the document, by the program. -/
def okA (y : L3) (a : Al) : Bool := same a.ty (bs y.1) && (same a.rel (bs y.2.2) && (a.wild == decide (kind3 y = 3)))
def okB (y : L3) (a : Al) : Bool := same a.ty (bs y.1) && ((a.wild == decide (kind3 y = 3)) && (decide (kind3 y = 3) || same a.rel (bs y.2.2)))
theorem kind_all {y : L3} (h : kind3 y = 3) : y.2.2 = [] := by
  have h1 : Who.allB y.1 y.2.1 y.2.2 = true := by
    rw [Who.all_eq, show Who.kind y.1 y.2.1 y.2.2 = 3 from h]
    rfl
  rw [Who.allB, Bool.and_eq_true, Bool.and_eq_true] at h1
  simpa using h1.2
theorem nil_is {a : ByteArray} (h : Tr.nil a = true) : a = none0 := by
  cases a with
  | mk d =>
    have h2 : d.toList = [] := by simpa [Tr.nil] using h
    have : d = #[] := by cases d; simp at h2; subst h2; rfl
    subst this
    rfl
theorem ok_eq {y : L3} {a : Al} (h : Cn.gA a = true) : okB y a = okA y a := by
  unfold okA okB
  cases same a.ty (bs y.1) with
  | false => rfl
  | true =>
    rw [Bool.true_and, Bool.true_and]
    by_cases hk : kind3 y = 3
    · rw [decide_eq_true hk, kind_all hk, Bool.true_or, Bool.and_true, show bs [] = none0 from rfl]
      cases hw : a.wild with
      | false => rw [show (false == true) = false from rfl, Bool.and_false]
      | true =>
        rw [Cn.gA, hw, Bool.and_eq_true] at h
        have h2 : Tr.nil a.rel = true := by simpa using h.2
        rw [nil_is h2, Lt.same_self]
        rfl
    · rw [decide_eq_false hk, Bool.false_or, Bool.and_comm]
theorem any_eq {y : L3} : ∀ {l : List Al}, l.all Cn.gA = true → l.any (okB y) = l.any (okA y)
  | [], _ => rfl
  | a :: l, h => by
    rw [List.all_cons, Bool.and_eq_true] at h
    rw [List.any_cons, List.any_cons, ok_eq h.1, any_eq h.2]

/-! ### the answers -/
def fitV (g s t a : Bool) : Int := if g then (if s && t then (if a then 0 else 15) else 13) else 2
def fitP (l : List Ty) (p : L3 × L3) : Int := fitV (goodB p.1 p.2) (relC l (bs p.1.1) (bs p.1.2.2)).isSome (hasT l (bs p.2.1)) (((relC l (bs p.1.1) (bs p.1.2.2)).getD zR).allow.any (okA p.2))
def fitB (l : List Ty) (p : L3 × L3) : Int := fitV (goodB p.1 p.2) (relC l (bs p.1.1) (bs p.1.2.2)).isSome (hasT l (bs p.2.1)) (((relC l (bs p.1.1) (bs p.1.2.2)).getD zR).allow.any (okB p.2))
def knownV (g : Bool) (k : Nat) (s t u : Bool) : Int := if g && (decide (k = 1) || decide (k = 2)) then (if s && t && (decide (k = 1) || u) then 0 else 13) else 2
def knownP (l : List Ty) (t i r : ByteArray) (y : L3) : Int := knownV (Gly.nameB t.data.toList && Gly.idB i.data.toList && Gly.nameB r.data.toList) (kind3 y) (relC l t r).isSome (hasT l (bs y.1)) (relC l (bs y.1) (bs y.2.2)).isSome
theorem relC_mem : ∀ {l : List Ty} {ty rl : ByteArray} {r : Rl}, relC l ty rl = some r → ∃ t ∈ l, r ∈ t.rels
  | [], _, _, _, h => by cases h
  | t :: l, ty, rl, r, h => by
    rw [relC] at h
    cases ht : relT t ty rl with
    | none =>
      rw [ht, Option.none_or] at h
      obtain ⟨u, hu, hr⟩ := relC_mem h
      exact ⟨u, by simp [hu], hr⟩
    | some r' =>
      rw [ht, Option.some_or] at h
      obtain rfl : r' = r := Option.some.inj h
      rw [relT] at ht
      split at ht
      · exact ⟨t, by simp, List.mem_of_find?_eq_some ht⟩
      · cases ht
theorem allow_good {l : List Ty} (hg : Cn.gC l = true) (ty rl : ByteArray) : ((relC l ty rl).getD zR).allow.all Cn.gA = true := by
  cases h : relC l ty rl with
  | none => rfl
  | some r =>
    obtain ⟨t, ht, hr⟩ := relC_mem h
    have h1 := List.all_eq_true.1 hg t ht
    rw [Cn.gT, Bool.and_eq_true] at h1
    have h2 := List.all_eq_true.1 h1.2 r hr
    rw [Cn.gR, Bool.and_eq_true] at h2
    exact h2.2
theorem fit_eq {l : List Ty} (hg : Cn.gC l = true) (p : L3 × L3) : fitB l p = fitP l p := by rw [fitB, fitP, any_eq (allow_good hg _ _)]
end Lo
end Go.Proofs.YtopncohhagebbaaGreatDoor

namespace Go.Proofs.YtopncohhagebbaaGreatDoor
open Go.RowKit
namespace Lo
open Tr (Nd node4 none0)
open Gr (Al Rl Ty IsAl IsRl IsTy Lies ty_at rl_at al_at alV relV tyV)
open Lt (any_take)
open Bond (L3)
open Who (bs)

abbrev fnv (F : FuncId) (c : Array Value) : Value := .func (.func F) #[] c
set_option maxHeartbeats 4000000 in
set_option maxRecDepth 100000 in
theorem indexTy (F : FuncId) (cs : Array Value) (l : List Ty) (ao : Option Addr) (cap : Nat) (us : List Value) (w : World) (h : Lies IsTy 2 w ao l us) (p : Ty → Bool)
    (HE : ∀ args x, (callFunc F args).run Tryz.prog x = .ok (.enter F args) x)
    (hf : ∀ j (hj : j < l.length) (u : Value) x, IsTy w l[j] u → Below w.heap.size w x → Calls Tryz.prog F (#[u] ++ cs) x fun e y => e = .returned (.bool (p l[j])) ∧ Below x.heap.size x y) :
    Calls Tryz.prog 77 #[.slice ao l.length cap, fnv F cs] w fun e x => ∃ z : Int, e = .returned (.int .i64 z) ∧ Idx p l z ∧ Below w.heap.size w x := by
  have HL := Lib.hid h
  have HF := Lib.hid hf
  have hbig : l.length ≤ 9223372036854775807 := h.big
  clear h hf
  go_enter Tryz.func77, Tryz.ntmps77
  go_wp2_with fail
  go_loopw [8] (fun i wr => ∃ j : Nat, j ≤ l.length ∧ i = .int .i64 j ∧ Hid ((l.take j).any p = false ∧ Below w.heap.size w wr)) (fun i _ => l.length - (intOf i).toNat)
  case atStart => exact ⟨0, by omega, rfl, Lib.hid ⟨by simp, Below.refl _ _⟩⟩
  case round =>
    obtain ⟨j, hj, rfl, HJ⟩ := hrel
    by_cases hlt : j < l.length
    · obtain ⟨g, q, ro, rc, vs, hix, hg, d0, d1, hla⟩ := ty_at HL.out cap hlt
      have c0 := (HJ.out.2.cell (p := ⟨g, q, none⟩) hg).trans d0
      have c1 := (HJ.out.2.cell (p := ⟨g, q + 1, none⟩) hg).trans d1
      have hat := any_take (p := p) hlt
      rw [HJ.out.1, Bool.false_or] at hat
      have HC := Lib.hid (HF.out j hlt _ wr (show IsTy w l[j] _ from ⟨ro, rc, vs, rfl, hla⟩) HJ.out.2)
      clear d0 d1 hla
      cases hp : p l[j] with
      | true =>
        have HA := Lib.hid (show Idx p l (j : Int) from .inr ⟨j, hlt, rfl, hp, HJ.out.1⟩)
        rw [hp] at HC
        clear hat hp
        go_wp2_with fail
        refine HC.out.mono ?_
        rintro e x ⟨rfl, hx⟩
        have HX := Lib.hid (HJ.out.2.trans (hx.mono HJ.out.2.size))
        clear hx
        go_wp2_with fail
        go_ret
        exact ⟨_, rfl, HA.out, HX.out⟩
      | false =>
        rw [hp] at HC hat
        have HA := Lib.hid hat
        clear hat hp
        go_wp2_with fail
        refine HC.out.mono ?_
        rintro e x ⟨rfl, hx⟩
        have HX := Lib.hid (HJ.out.2.trans (hx.mono HJ.out.2.size))
        clear hx
        go_wp2_with fail
        go_roundw
        case rel => exact ⟨j + 1, by omega, by go_num, Lib.hid ⟨HA.out, HX.out⟩⟩
        case measure => simp [intOf]; omega
    · have hj' : j = l.length := by omega
      subst hj'
      have HX := Lib.hid HJ.out
      clear HJ
      go_wp2_with fail
      go_ret
      refine ⟨_, rfl, .inl ⟨?_, rfl⟩, HX.out.2⟩
      have := HX.out.1
      rwa [List.take_length] at this
set_option maxHeartbeats 2000000 in
set_option maxRecDepth 100000 in
theorem containsTy (F : FuncId) (cs : Array Value) (l : List Ty) (ao : Option Addr) (cap : Nat) (us : List Value) (w : World) (h : Lies IsTy 2 w ao l us) (p : Ty → Bool)
    (HE : ∀ args x, (callFunc F args).run Tryz.prog x = .ok (.enter F args) x)
    (hf : ∀ j (hj : j < l.length) (u : Value) x, IsTy w l[j] u → Below w.heap.size w x → Calls Tryz.prog F (#[u] ++ cs) x fun e y => e = .returned (.bool (p l[j])) ∧ Below x.heap.size x y) :
    Calls Tryz.prog 81 #[.slice ao l.length cap, fnv F cs] w fun e x => e = .returned (.bool (l.any p)) ∧ Below w.heap.size w x := by
  have HC := Lib.hid (indexTy F cs l ao cap us w h p HE hf)
  clear h hf
  go_enter Tryz.func81, Tryz.ntmps81
  go_wp2_with fail
  refine HC.out.mono ?_
  rintro e x ⟨z, rfl, hz, hx⟩
  have HX := Lib.hid (And.intro hz hx)
  clear hz hx
  go_wp2_with fail
  go_ret
  exact ⟨by rw [← HX.out.1.is]; rfl, HX.out.2⟩
set_option maxHeartbeats 4000000 in
set_option maxRecDepth 100000 in
theorem indexRl (F : FuncId) (cs : Array Value) (l : List Rl) (ao : Option Addr) (cap : Nat) (us : List Value) (w : World) (h : Lies IsRl 6 w ao l us) (p : Rl → Bool)
    (HE : ∀ args x, (callFunc F args).run Tryz.prog x = .ok (.enter F args) x)
    (hf : ∀ j (hj : j < l.length) (u : Value) x, IsRl w l[j] u → Below w.heap.size w x → Calls Tryz.prog F (#[u] ++ cs) x fun e y => e = .returned (.bool (p l[j])) ∧ Below x.heap.size x y) :
    Calls Tryz.prog 80 #[.slice ao l.length cap, fnv F cs] w fun e x => ∃ z : Int, e = .returned (.int .i64 z) ∧ Idx p l z ∧ Below w.heap.size w x := by
  have HL := Lib.hid h
  have HF := Lib.hid hf
  have hbig : l.length ≤ 9223372036854775807 := h.big
  clear h hf
  go_enter Tryz.func80, Tryz.ntmps80
  go_wp2_with fail
  go_loopw [8] (fun i wr => ∃ j : Nat, j ≤ l.length ∧ i = .int .i64 j ∧ Hid ((l.take j).any p = false ∧ Below w.heap.size w wr)) (fun i _ => l.length - (intOf i).toNat)
  case atStart => exact ⟨0, by omega, rfl, Lib.hid ⟨by simp, Below.refl _ _⟩⟩
  case round =>
    obtain ⟨j, hj, rfl, HJ⟩ := hrel
    by_cases hlt : j < l.length
    · obtain ⟨g, q, ro, rc, no, nc, vs, hix, hg, d0, d1, d2, d3, d4, d5, hla, hnd⟩ := rl_at HL.out cap hlt
      have c0 := (HJ.out.2.cell (p := ⟨g, q, none⟩) hg).trans d0
      have c1 := (HJ.out.2.cell (p := ⟨g, q + 1, none⟩) hg).trans d1
      have c2 := (HJ.out.2.cell (p := ⟨g, q + 2, none⟩) hg).trans d2
      have c3 := (HJ.out.2.cell (p := ⟨g, q + 3, none⟩) hg).trans d3
      have c4 := (HJ.out.2.cell (p := ⟨g, q + 4, none⟩) hg).trans d4
      have c5 := (HJ.out.2.cell (p := ⟨g, q + 5, none⟩) hg).trans d5
      have hat := any_take (p := p) hlt
      rw [HJ.out.1, Bool.false_or] at hat
      have HC := Lib.hid (HF.out j hlt _ wr (show IsRl w l[j] _ from ⟨ro, rc, no, nc, vs, rfl, hla, hnd⟩) HJ.out.2)
      clear d0 d1 d2 d3 d4 d5 hla hnd
      cases hp : p l[j] with
      | true =>
        have HA := Lib.hid (show Idx p l (j : Int) from .inr ⟨j, hlt, rfl, hp, HJ.out.1⟩)
        rw [hp] at HC
        clear hat hp
        go_wp2_with fail
        refine HC.out.mono ?_
        rintro e x ⟨rfl, hx⟩
        have HX := Lib.hid (HJ.out.2.trans (hx.mono HJ.out.2.size))
        clear hx
        go_wp2_with fail
        go_ret
        exact ⟨_, rfl, HA.out, HX.out⟩
      | false =>
        rw [hp] at HC hat
        have HA := Lib.hid hat
        clear hat hp
        go_wp2_with fail
        refine HC.out.mono ?_
        rintro e x ⟨rfl, hx⟩
        have HX := Lib.hid (HJ.out.2.trans (hx.mono HJ.out.2.size))
        clear hx
        go_wp2_with fail
        go_roundw
        case rel => exact ⟨j + 1, by omega, by go_num, Lib.hid ⟨HA.out, HX.out⟩⟩
        case measure => simp [intOf]; omega
    · have hj' : j = l.length := by omega
      subst hj'
      have HX := Lib.hid HJ.out
      clear HJ
      go_wp2_with fail
      go_ret
      refine ⟨_, rfl, .inl ⟨?_, rfl⟩, HX.out.2⟩
      have := HX.out.1
      rwa [List.take_length] at this
set_option maxHeartbeats 2000000 in
set_option maxRecDepth 100000 in
theorem containsRl (F : FuncId) (cs : Array Value) (l : List Rl) (ao : Option Addr) (cap : Nat) (us : List Value) (w : World) (h : Lies IsRl 6 w ao l us) (p : Rl → Bool)
    (HE : ∀ args x, (callFunc F args).run Tryz.prog x = .ok (.enter F args) x)
    (hf : ∀ j (hj : j < l.length) (u : Value) x, IsRl w l[j] u → Below w.heap.size w x → Calls Tryz.prog F (#[u] ++ cs) x fun e y => e = .returned (.bool (p l[j])) ∧ Below x.heap.size x y) :
    Calls Tryz.prog 79 #[.slice ao l.length cap, fnv F cs] w fun e x => e = .returned (.bool (l.any p)) ∧ Below w.heap.size w x := by
  have HC := Lib.hid (indexRl F cs l ao cap us w h p HE hf)
  clear h hf
  go_enter Tryz.func79, Tryz.ntmps79
  go_wp2_with fail
  refine HC.out.mono ?_
  rintro e x ⟨z, rfl, hz, hx⟩
  have HX := Lib.hid (And.intro hz hx)
  clear hz hx
  go_wp2_with fail
  go_ret
  exact ⟨by rw [← HX.out.1.is]; rfl, HX.out.2⟩
set_option maxHeartbeats 4000000 in
set_option maxRecDepth 100000 in
theorem indexAl (F : FuncId) (cs : Array Value) (l : List Al) (ao : Option Addr) (cap : Nat) (us : List Value) (w : World) (h : Lies IsAl 3 w ao l us) (p : Al → Bool)
    (HE : ∀ args x, (callFunc F args).run Tryz.prog x = .ok (.enter F args) x)
    (hf : ∀ j (hj : j < l.length) (u : Value) x, IsAl w l[j] u → Below w.heap.size w x → Calls Tryz.prog F (#[u] ++ cs) x fun e y => e = .returned (.bool (p l[j])) ∧ Below x.heap.size x y) :
    Calls Tryz.prog 115 #[.slice ao l.length cap, fnv F cs] w fun e x => ∃ z : Int, e = .returned (.int .i64 z) ∧ Idx p l z ∧ Below w.heap.size w x := by
  have HL := Lib.hid h
  have HF := Lib.hid hf
  have hbig : l.length ≤ 9223372036854775807 := h.big
  clear h hf
  go_enter Tryz.func115, Tryz.ntmps115
  go_wp2_with fail
  go_loopw [8] (fun i wr => ∃ j : Nat, j ≤ l.length ∧ i = .int .i64 j ∧ Hid ((l.take j).any p = false ∧ Below w.heap.size w wr)) (fun i _ => l.length - (intOf i).toNat)
  case atStart => exact ⟨0, by omega, rfl, Lib.hid ⟨by simp, Below.refl _ _⟩⟩
  case round =>
    obtain ⟨j, hj, rfl, HJ⟩ := hrel
    by_cases hlt : j < l.length
    · obtain ⟨g, q, hix, hg, d0, d1, d2⟩ := al_at HL.out cap hlt
      have c0 := (HJ.out.2.cell (p := ⟨g, q, none⟩) hg).trans d0
      have c1 := (HJ.out.2.cell (p := ⟨g, q + 1, none⟩) hg).trans d1
      have c2 := (HJ.out.2.cell (p := ⟨g, q + 2, none⟩) hg).trans d2
      have hat := any_take (p := p) hlt
      rw [HJ.out.1, Bool.false_or] at hat
      have HC := Lib.hid (HF.out j hlt _ wr (show IsAl w l[j] _ from rfl) HJ.out.2)
      clear d0 d1 d2
      cases hp : p l[j] with
      | true =>
        have HA := Lib.hid (show Idx p l (j : Int) from .inr ⟨j, hlt, rfl, hp, HJ.out.1⟩)
        rw [hp] at HC
        clear hat hp
        go_wp2_with fail
        refine HC.out.mono ?_
        rintro e x ⟨rfl, hx⟩
        have HX := Lib.hid (HJ.out.2.trans (hx.mono HJ.out.2.size))
        clear hx
        go_wp2_with fail
        go_ret
        exact ⟨_, rfl, HA.out, HX.out⟩
      | false =>
        rw [hp] at HC hat
        have HA := Lib.hid hat
        clear hat hp
        go_wp2_with fail
        refine HC.out.mono ?_
        rintro e x ⟨rfl, hx⟩
        have HX := Lib.hid (HJ.out.2.trans (hx.mono HJ.out.2.size))
        clear hx
        go_wp2_with fail
        go_roundw
        case rel => exact ⟨j + 1, by omega, by go_num, Lib.hid ⟨HA.out, HX.out⟩⟩
        case measure => simp [intOf]; omega
    · have hj' : j = l.length := by omega
      subst hj'
      have HX := Lib.hid HJ.out
      clear HJ
      go_wp2_with fail
      go_ret
      refine ⟨_, rfl, .inl ⟨?_, rfl⟩, HX.out.2⟩
      have := HX.out.1
      rwa [List.take_length] at this
set_option maxHeartbeats 2000000 in
set_option maxRecDepth 100000 in
theorem containsAl (F : FuncId) (cs : Array Value) (l : List Al) (ao : Option Addr) (cap : Nat) (us : List Value) (w : World) (h : Lies IsAl 3 w ao l us) (p : Al → Bool)
    (HE : ∀ args x, (callFunc F args).run Tryz.prog x = .ok (.enter F args) x)
    (hf : ∀ j (hj : j < l.length) (u : Value) x, IsAl w l[j] u → Below w.heap.size w x → Calls Tryz.prog F (#[u] ++ cs) x fun e y => e = .returned (.bool (p l[j])) ∧ Below x.heap.size x y) :
    Calls Tryz.prog 84 #[.slice ao l.length cap, fnv F cs] w fun e x => e = .returned (.bool (l.any p)) ∧ Below w.heap.size w x := by
  have HC := Lib.hid (indexAl F cs l ao cap us w h p HE hf)
  clear h hf
  go_enter Tryz.func84, Tryz.ntmps84
  go_wp2_with fail
  refine HC.out.mono ?_
  rintro e x ⟨z, rfl, hz, hx⟩
  have HX := Lib.hid (And.intro hz hx)
  clear hz hx
  go_wp2_with fail
  go_ret
  exact ⟨by rw [← HX.out.1.is]; rfl, HX.out.2⟩
set_option maxHeartbeats 4000000 in
set_option maxRecDepth 100000 in
theorem indexTp (F : FuncId) (cs : Array Value) (l : List (L3 × L3)) (ao : Option Addr) (cap : Nat) (w : World) (h : IsTups w (.slice ao l.length cap) l) (hbig : l.length ≤ 9223372036854775807) (p : (L3 × L3) → Bool)
    (HE : ∀ args x, (callFunc F args).run Tryz.prog x = .ok (.enter F args) x)
    (hf : ∀ j (hj : j < l.length) (u : Value) x, u = agg6 l[j] → Below w.heap.size w x → Calls Tryz.prog F (#[u] ++ cs) x fun e y => e = .returned (.bool (p l[j])) ∧ Below x.heap.size x y) :
    Calls Tryz.prog 48 #[.slice ao l.length cap, fnv F cs] w fun e x => ∃ z : Int, e = .returned (.int .i64 z) ∧ Idx p l z ∧ Below w.heap.size w x := by
  have HL := Lib.hid h
  have HF := Lib.hid hf
  have hbig : l.length ≤ 9223372036854775807 := hbig
  clear h hf
  go_enter Tryz.func48, Tryz.ntmps48
  go_wp2_with fail
  go_loopw [8] (fun i wr => ∃ j : Nat, j ≤ l.length ∧ i = .int .i64 j ∧ Hid ((l.take j).any p = false ∧ Below w.heap.size w wr)) (fun i _ => l.length - (intOf i).toNat)
  case atStart => exact ⟨0, by omega, rfl, Lib.hid ⟨by simp, Below.refl _ _⟩⟩
  case round =>
    obtain ⟨j, hj, rfl, HJ⟩ := hrel
    by_cases hlt : j < l.length
    · obtain ⟨g, q, hix, hg, -, d0, d1, d2, d3, d4, d5⟩ := HL.out.at hlt
      have c0 := (HJ.out.2.cell (p := ⟨g, q, none⟩) hg).trans d0
      have c1 := (HJ.out.2.cell (p := ⟨g, q + 1, none⟩) hg).trans d1
      have c2 := (HJ.out.2.cell (p := ⟨g, q + 2, none⟩) hg).trans d2
      have c3 := (HJ.out.2.cell (p := ⟨g, q + 3, none⟩) hg).trans d3
      have c4 := (HJ.out.2.cell (p := ⟨g, q + 4, none⟩) hg).trans d4
      have c5 := (HJ.out.2.cell (p := ⟨g, q + 5, none⟩) hg).trans d5
      have hat := any_take (p := p) hlt
      rw [HJ.out.1, Bool.false_or] at hat
      have HC := Lib.hid (HF.out j hlt _ wr rfl HJ.out.2)
      clear d0 d1 d2 d3 d4 d5
      cases hp : p l[j] with
      | true =>
        have HA := Lib.hid (show Idx p l (j : Int) from .inr ⟨j, hlt, rfl, hp, HJ.out.1⟩)
        rw [hp] at HC
        clear hat hp
        go_wp2_with fail
        refine HC.out.mono ?_
        rintro e x ⟨rfl, hx⟩
        have HX := Lib.hid (HJ.out.2.trans (hx.mono HJ.out.2.size))
        clear hx
        go_wp2_with fail
        go_ret
        exact ⟨_, rfl, HA.out, HX.out⟩
      | false =>
        rw [hp] at HC hat
        have HA := Lib.hid hat
        clear hat hp
        go_wp2_with fail
        refine HC.out.mono ?_
        rintro e x ⟨rfl, hx⟩
        have HX := Lib.hid (HJ.out.2.trans (hx.mono HJ.out.2.size))
        clear hx
        go_wp2_with fail
        go_roundw
        case rel => exact ⟨j + 1, by omega, by go_num, Lib.hid ⟨HA.out, HX.out⟩⟩
        case measure => simp [intOf]; omega
    · have hj' : j = l.length := by omega
      subst hj'
      have HX := Lib.hid HJ.out
      clear HJ
      go_wp2_with fail
      go_ret
      refine ⟨_, rfl, .inl ⟨?_, rfl⟩, HX.out.2⟩
      have := HX.out.1
      rwa [List.take_length] at this
end Lo
end Go.Proofs.YtopncohhagebbaaGreatDoor

namespace Go.Proofs.YtopncohhagebbaaGreatDoor
open Go.RowKit
namespace Lo
open Tr (Nd IsNode node4 none0)
open Gr (Al Rl Ty IsAl IsRl IsTy IsCf Lies ty_at rl_at al_at alV relV tyV tAl tRl tTy tCf box1 box2 box6)
open Cn (box3)
open Lt (same relC relT zR two set6 set6_heap set6_turns free6)
open Bond (L3 kind3 goodB tupV)
open Who (bs bs_list bs_self)

/-- Blocks that are known. -/
structure On (w : World) (L : List (Nat × Obj)) (x : World) : Prop where
  below : Below w.heap.size w x
  has : ∀ p ∈ L, x.heap[p.1]? = some p.2
section
variable {w x y : World} {L : List (Nat × Obj)}
theorem On.start (w : World) : On w [] w := ⟨Below.refl _ _, fun p hp => by cases hp⟩
theorem On.step (h : On w L x) (hb : Below x.heap.size x y) : On w L y :=
  ⟨h.below.trans (hb.mono h.below.size), fun p hp => (hb.block _ (Array.getElem?_eq_some_iff.1 (h.has p hp)).1).trans (h.has p hp)⟩
theorem On.new (h : On w L x) (c : Array Value) (T : TypeId) {n : Nat} (hs : x.heap.size = n) : On w ((n, .cells c T (0, 0)) :: L) (x.alloc (.cells c T)) := by
  have h2 := h.step (Tr.fresh_one x (.cells c T))
  refine ⟨h2.below, fun p hp => ?_⟩
  rcases List.mem_cons.1 hp with rfl | hp
  · rw [← hs]
    exact heap_alloc_new x (.cells c T)
  · exact h2.has p hp
theorem On.tail {p : Nat × Obj} (h : On w (p :: L) x) : On w L x := ⟨h.below, fun q hq => h.has q (by simp [hq])⟩
theorem On.at0 {p0 : Nat × Obj} (h : On w (p0 :: L) x) : x.heap[p0.1]? = some p0.2 := h.has _ (by simp)
theorem On.at1 {p0 p1 : Nat × Obj} (h : On w (p0 :: p1 :: L) x) : x.heap[p1.1]? = some p1.2 := h.has _ (by simp)
theorem On.at2 {p0 p1 p2 : Nat × Obj} (h : On w (p0 :: p1 :: p2 :: L) x) : x.heap[p2.1]? = some p2.2 := h.has _ (by simp)
theorem On.at3 {p0 p1 p2 p3 : Nat × Obj} (h : On w (p0 :: p1 :: p2 :: p3 :: L) x) : x.heap[p3.1]? = some p3.2 := h.has _ (by simp)
theorem On.at4 {p0 p1 p2 p3 p4 : Nat × Obj} (h : On w (p0 :: p1 :: p2 :: p3 :: p4 :: L) x) : x.heap[p4.1]? = some p4.2 := h.has _ (by simp)
end

/-! ### the functions that are asked -/
theorem enter_named : ∀ args W, (callFunc 76 args).run Tryz.prog W = .ok (.enter 76 args) W := fun args W => by kernel_rfl
theorem enter_hit : ∀ args W, (callFunc 78 args).run Tryz.prog W = .ok (.enter 78 args) W := fun args W => by kernel_rfl
theorem enter_type : ∀ args W, (callFunc 82 args).run Tryz.prog W = .ok (.enter 82 args) W := fun args W => by kernel_rfl
theorem enter_allow : ∀ args W, (callFunc 85 args).run Tryz.prog W = .ok (.enter 85 args) W := fun args W => by kernel_rfl
theorem enter_unfit : ∀ args W, (callFunc 49 args).run Tryz.prog W = .ok (.enter 49 args) W := fun args W => by kernel_rfl

set_option maxHeartbeats 2000000 in
set_option maxRecDepth 100000 in
theorem named_any (r : Rl) (u : Value) (g : Nat) (rl : ByteArray) (w : World) (h : IsRl w r u) (hc : w.cell? ⟨g, 0, none⟩ = some (.string rl)) :
    Calls Tryz.prog 76 #[u, .pointer (some ⟨g, 0, none⟩)] w fun e x => e = .returned (.bool (named rl r)) ∧ Below w.heap.size w x := by
  obtain ⟨ao, cap, no, nc, us, rfl, -, -⟩ := h
  have H0 := Lib.hid ((On.start w).new #[.string r.name, .slice ao r.allow.length cap, .int .i64 r.expr.kind, .string r.expr.ta, .string r.expr.tb, .slice no r.expr.kids.length nc] tRl rfl)
  obtain ⟨b0, -⟩ := box6 H0.out.at0
  have c0 := (H0.out.below.cell (p := ⟨g, 0, none⟩) (World.block_lt_of_cell? w _ hc)).trans hc
  clear hc
  go_enter Tryz.func76, Tryz.ntmps76
  go_wp2_with fail
  go_ret
  exact ⟨rfl, H0.out.below⟩
set_option maxHeartbeats 2000000 in
set_option maxRecDepth 100000 in
theorem type_any (t : Ty) (u : Value) (g : Nat) (a : ByteArray) (w : World) (h : IsTy w t u) (hc : w.cell? ⟨g, 0, none⟩ = some (.string a)) :
    Calls Tryz.prog 82 #[u, .pointer (some ⟨g, 0, none⟩)] w fun e x => e = .returned (.bool (same t.name a)) ∧ Below w.heap.size w x := by
  obtain ⟨ao, cap, us, rfl, -⟩ := h
  have H0 := Lib.hid ((On.start w).new #[.string t.name, .slice ao t.rels.length cap] tTy rfl)
  obtain ⟨b0, -⟩ := box2 H0.out.at0
  have c0 := (H0.out.below.cell (p := ⟨g, 0, none⟩) (World.block_lt_of_cell? w _ hc)).trans hc
  clear hc
  go_enter Tryz.func82, Tryz.ntmps82
  go_wp2_with fail
  go_ret
  exact ⟨rfl, H0.out.below⟩
set_option maxHeartbeats 4000000 in
set_option maxRecDepth 100000 in
theorem hit_any (t : Ty) (u : Value) (g1 g2 g3 : Nat) (ty rl : ByteArray) (w : World) (h : IsTy w t u) (h1 : w.cell? ⟨g1, 0, none⟩ = some (.string ty)) (h2 : w.cell? ⟨g2, 0, none⟩ = some (fnv 76 #[.pointer (some ⟨g3, 0, none⟩)])) (h3 : w.cell? ⟨g3, 0, none⟩ = some (.string rl)) :
    Calls Tryz.prog 78 #[u, .pointer (some ⟨g1, 0, none⟩), .pointer (some ⟨g2, 0, none⟩)] w fun e x => e = .returned (.bool (hitT ty rl t)) ∧ Below w.heap.size w x := by
  obtain ⟨ao, cap, us, rfl, hl⟩ := h
  have H0 := Lib.hid ((On.start w).new #[.string t.name, .slice ao t.rels.length cap] tTy rfl)
  obtain ⟨b0, b1⟩ := box2 H0.out.at0
  have c1 := (H0.out.below.cell (p := ⟨g1, 0, none⟩) (World.block_lt_of_cell? w _ h1)).trans h1
  have c2 := (H0.out.below.cell (p := ⟨g2, 0, none⟩) (World.block_lt_of_cell? w _ h2)).trans h2
  have c3 := (H0.out.below.cell (p := ⟨g3, 0, none⟩) (World.block_lt_of_cell? w _ h3)).trans h3
  have HC := Lib.hid (containsRl 76 #[.pointer (some ⟨g3, 0, none⟩)] t.rels ao cap us _ (hl.on H0.out.below fun _ _ h => h.below H0.out.below) (named rl) enter_named fun j hj u x hu hx => named_any _ u g3 rl x (hu.below hx) ((hx.cell (p := ⟨g3, 0, none⟩) (World.block_lt_of_cell? _ _ c3)).trans c3))
  clear h1 h2 h3 hl c3
  cases hs : same t.name ty with
  | false =>
    have e1 : (t.name.toList == ty.toList) = false := hs
    have HE := Lib.hid (show hitT ty rl t = false by rw [hitT, hs, Bool.false_and])
    clear hs c2 HC
    go_enter Tryz.func78, Tryz.ntmps78
    go_wp2_with fail
    go_ret
    exact ⟨by rw [HE.out]; rfl, H0.out.below⟩
  | true =>
    have e1 : (t.name.toList == ty.toList) = true := hs
    have HE := Lib.hid (show hitT ty rl t = t.rels.any (named rl) by rw [hitT, hs, Bool.true_and])
    clear hs
    go_enter Tryz.func78, Tryz.ntmps78
    go_wp2_with fail
    refine HC.out.mono ?_
    rintro e x ⟨rfl, hx⟩
    have H1 := Lib.hid (H0.out.step hx)
    clear hx
    go_wp2_with fail
    go_ret
    exact ⟨by rw [HE.out]; rfl, H1.out.below⟩
set_option maxHeartbeats 4000000 in
set_option maxRecDepth 100000 in
theorem allow_any (y : L3) (a : Al) (g1 g2 : Nat) (w : World) (h1 : w.cell? ⟨g1, 0, none⟩ = some (.string (bs y.1))) (h2 : w.cell? ⟨g1, 2, none⟩ = some (.string (bs y.2.2))) (h3 : w.cell? ⟨g2, 0, none⟩ = some (.bool (decide (kind3 y = 3)))) :
    Calls Tryz.prog 85 #[alV a, .pointer (some ⟨g1, 0, none⟩), .pointer (some ⟨g2, 0, none⟩)] w fun e x => e = .returned (.bool (okB y a)) ∧ Below w.heap.size w x := by
  obtain ⟨ty, rl, wd⟩ := a
  have H0 := Lib.hid ((On.start w).new #[.string ty, .string rl, .bool wd] tAl rfl)
  obtain ⟨b0, b1, b2⟩ := box3 H0.out.at0
  have c1 := (H0.out.below.cell (p := ⟨g1, 0, none⟩) (World.block_lt_of_cell? w _ h1)).trans h1
  have c2 := (H0.out.below.cell (p := ⟨g1, 2, none⟩) (World.block_lt_of_cell? w _ h2)).trans h2
  have c3 := (H0.out.below.cell (p := ⟨g2, 0, none⟩) (World.block_lt_of_cell? w _ h3)).trans h3
  clear h1 h2 h3
  have HE := Lib.hid (show okB y ⟨ty, rl, wd⟩ = (same ty (bs y.1) && ((wd == decide (kind3 y = 3)) && (decide (kind3 y = 3) || same rl (bs y.2.2)))) from rfl)
  generalize decide (kind3 y = 3) = k at *
  generalize bs y.1 = ya at *
  generalize bs y.2.2 = yc at *
  generalize okB y ⟨ty, rl, wd⟩ = ok at *
  cases hs : same ty ya with
  | false =>
    have e1 : (ty.toList == ya.toList) = false := hs
    rw [hs, Bool.false_and] at HE
    clear hs
    go_enter Tryz.func85, Tryz.ntmps85
    go_wp2_with fail
    go_ret
    exact ⟨by rw [HE.out]; rfl, H0.out.below⟩
  | true =>
    have e1 : (ty.toList == ya.toList) = true := hs
    rw [hs, Bool.true_and] at HE
    clear hs
    cases wd <;> cases k <;> (go_enter Tryz.func85, Tryz.ntmps85; go_wp2_with fail; go_ret; exact ⟨by rw [HE.out]; rfl, H0.out.below⟩)

/-! ### find, hasType, hasRel, allows -/
abbrev fb (w : World) (ao : Option Addr) (n cap : Nat) (ty rl : ByteArray) : List (Nat × Obj) :=
  [(w.heap.size + 1 + 1 + 1 + 1, .cells #[fnv 76 #[.pointer (some ⟨w.heap.size + 1 + 1, 0, none⟩)]] 142 (0, 0)),
   (w.heap.size + 1 + 1 + 1, .cells #[.string ⟨#[]⟩, .slice none 0 0, .int .i64 0, .string ⟨#[]⟩, .string ⟨#[]⟩, .slice none 0 0] tRl (0, 0)),
   (w.heap.size + 1 + 1, .cells #[.string rl] 9 (0, 0)), (w.heap.size + 1, .cells #[.string ty] 9 (0, 0)), (w.heap.size, .cells #[.slice ao n cap] tCf (0, 0))]
set_option maxHeartbeats 4000000 in
set_option maxRecDepth 100000 in
theorem hasType_any (l : List Ty) (v : Value) (w : World) (h : IsCf w l v) (a : ByteArray) :
    Calls Tryz.prog 46 #[v, .string a] w fun e x => e = .returned (.bool (hasT l a)) ∧ Below w.heap.size w x := by
  obtain ⟨ao, cap, us, rfl, hl⟩ := h
  have H0 := Lib.hid (((On.start w).new #[.slice ao l.length cap] tCf rfl).new #[.string a] 9 (n := w.heap.size + 1) (by simp))
  have b0 := box1 H0.out.at1
  have HC := Lib.hid (containsTy 82 #[.pointer (some ⟨w.heap.size + 1, 0, none⟩)] l ao cap us _ (hl.on H0.out.below fun _ _ h => h.below H0.out.below) (fun t => same t.name a) enter_type fun j hj u x hu hx => type_any _ u _ a x (hu.below hx) (box1 (H0.out.step hx).at0))
  clear hl
  go_enter Tryz.func46, Tryz.ntmps46
  go_wp2_with fail
  refine HC.out.mono ?_
  rintro e x ⟨rfl, hx⟩
  have H1 := Lib.hid (H0.out.step hx)
  clear hx
  go_wp2_with fail
  go_ret
  exact ⟨rfl, H1.out.below⟩

set_option maxHeartbeats 8000000 in
set_option maxRecDepth 100000 in
theorem find_any (l : List Ty) (v : Value) (w : World) (h : IsCf w l v) (ty rl : ByteArray) :
    Calls Tryz.prog 45 #[v, .string ty, .string rl] w fun e x => ∃ u, e = .returned (two u (.bool (relC l ty rl).isSome)) ∧ IsRl w ((relC l ty rl).getD zR) u ∧ Below w.heap.size w x := by
  obtain ⟨ao, cap, us, rfl, hl⟩ := h
  have HB := Lib.hid ((((On.start w).new #[.slice ao l.length cap] tCf rfl).new #[.string ty] 9 (n := w.heap.size + 1) (by simp)).new #[.string rl] 9 (n := w.heap.size + 1 + 1) (by simp) |>.new #[.string ⟨#[]⟩, .slice none 0 0, .int .i64 0, .string ⟨#[]⟩, .string ⟨#[]⟩, .slice none 0 0] tRl (n := w.heap.size + 1 + 1 + 1) (by simp) |>.new #[fnv 76 #[.pointer (some ⟨w.heap.size + 1 + 1, 0, none⟩)]] 142 (n := w.heap.size + 1 + 1 + 1 + 1) (by simp))
  have HL := Lib.hid hl
  have HI := Lib.hid (fun x (hx : On w (fb w ao l.length cap ty rl) x) => indexTy 78 #[.pointer (some ⟨w.heap.size + 1, 0, none⟩), .pointer (some ⟨w.heap.size + 1 + 1 + 1 + 1, 0, none⟩)] l ao cap us x (hl.on hx.below fun _ _ h => h.below hx.below) (hitT ty rl) enter_hit fun j hj u y hu hy => hit_any _ u (w.heap.size + 1) (w.heap.size + 1 + 1 + 1 + 1) (w.heap.size + 1 + 1) ty rl y (hu.below hy) (box1 (hx.step hy).at3) (box1 (hx.step hy).at0) (box1 (hx.step hy).at2))
  clear hl
  have hst : ∀ (a : Addr) (x : World), (store a (.func (.func 76) #[] #[.pointer (some ⟨w.heap.size + 1 + 1, 0, none⟩)])).run Tryz.prog x = stored Tryz.prog x a (.func (.func 76) #[] #[.pointer (some ⟨w.heap.size + 1 + 1, 0, none⟩)]) .plain := fun a x => run_store Tryz.prog x a _ .plain rfl
  go_enter Tryz.func45, Tryz.ntmps45
  go_upto_region 2 with fail
  generalize ((((w.alloc (.cells #[.slice ao l.length cap] tCf)).alloc (.cells #[.string ty] 9)).alloc (.cells #[.string rl] 9)).alloc (.cells #[.string ⟨#[]⟩, .slice none 0 0, .int .i64 0, .string ⟨#[]⟩, .string ⟨#[]⟩, .slice none 0 0] tRl)).alloc (.cells #[fnv 76 #[.pointer (some ⟨w.heap.size + 1 + 1, 0, none⟩)]] 142) = X at *
  have b0 := box1 HB.out.at4
  go_wp2_with fail
  refine (HI.out _ HB.out).mono ?_
  rintro e y ⟨z, rfl, hz, hy⟩
  have H1 := Lib.hid (HB.out.step hy)
  clear hy b0 HI HB
  obtain ⟨k0, k1, k2, k3, k4, k5⟩ := box6 H1.out.at1
  obtain ⟨f0, f1, f2, f3, f4, f5⟩ := free6 H1.out.at1
  rcases hz with ⟨hz, rfl⟩ | ⟨j, hj, rfl, hj1, hj2⟩
  · have HE := Lib.hid (relC_not hz)
    have hfin := set6_heap H1.out.at1 (.string ⟨#[]⟩) (.slice none 0 0) (.int .i64 0) (.string ⟨#[]⟩) (.string ⟨#[]⟩) (.slice none 0 0)
    have htu := (set6_turns y (w.heap.size + 1 + 1 + 1) (.string ⟨#[]⟩) (.slice none 0 0) (.int .i64 0) (.string ⟨#[]⟩) (.string ⟨#[]⟩) (.slice none 0 0)).below (B := w.heap.size) H1.out.below.size (fun k hk => by omega)
    have HF := Lib.hid (And.intro hfin (H1.out.below.trans htu))
    clear hz hfin htu
    go_wp2_with fail
    change bodyPost _ _ _ _ _ (set6 y (w.heap.size + 1 + 1 + 1) (.string ⟨#[]⟩) (.slice none 0 0) (.int .i64 0) (.string ⟨#[]⟩) (.string ⟨#[]⟩) (.slice none 0 0))
    generalize set6 y (w.heap.size + 1 + 1 + 1) (.string ⟨#[]⟩) (.slice none 0 0) (.int .i64 0) (.string ⟨#[]⟩) (.string ⟨#[]⟩) (.slice none 0 0) = F at *
    obtain ⟨g0, g1, g2, g3, g4, g5⟩ := box6 HF.out.1
    refine bodyPost_ret (v := two (relV zR (.slice none 0 0) (.slice none 0 0)) (.bool false)) (by simp [results, Tryz.results45, go_sem, g0, g1, g2, g3, g4, g5, zR, none0, Nd.kind, Nd.ta, Nd.tb]) rfl ⟨_, by rw [HE.out]; rfl, ?_, HF.out.2⟩
    rw [HE.out]
    refine ⟨none, 0, none, 0, [], rfl, ⟨rfl, Nat.zero_le _, fun h => absurd rfl h, fun i a u h => by simp [zR] at h⟩, ?_⟩
    show IsNode _ (.mk 0 none0 none0 []) _
    rw [IsNode]
    refine ⟨none, 0, [], rfl, ⟨by decide, by decide⟩, fun h => absurd rfl h, ?_⟩
    rw [Tr.IsNodes]
  · have hrl : l[j].rels.any (named rl) = true := by
      rw [hitT, Bool.and_eq_true] at hj1
      exact hj1.2
    obtain ⟨g, q, ro, rc, vs, hix, hg, c0', c1', hla⟩ := ty_at HL.out cap hj
    have c0 := (H1.out.below.cell (p := ⟨g, q, none⟩) hg).trans c0'
    have c1 := (H1.out.below.cell (p := ⟨g, q + 1, none⟩) hg).trans c1'
    have HHit := Lib.hid (fun (k : Nat) hk h3 h4 => relC_hit (k := k) hj hj1 hj2 hk h3 h4)
    have HLR := Lib.hid hla
    have HR := Lib.hid hrl
    generalize l[j] = t at *
    have HI := Lib.hid (fun x (hx : On w (fb w ao l.length cap ty rl) x) => indexRl 76 #[.pointer (some ⟨w.heap.size + 1 + 1, 0, none⟩)] t.rels ro rc vs x (HLR.out.on hx.below fun _ _ h => h.below hx.below) (named rl) enter_named fun j hj u y hu hy => named_any _ u (w.heap.size + 1 + 1) rl y (hu.below hy) (box1 (hx.step hy).at2))
    have b0 := box1 H1.out.at4
    have b4 := box1 H1.out.at0
    have e1 : decide ((j : Int) < 0) = false := by simp
    clear hrl hj1 hj2 c0' c1' hla hg
    go_wp2_with fail
    refine (HI.out _ H1.out).mono ?_
    rintro e y2 ⟨z, rfl, hz, hy⟩
    have H2 := Lib.hid (H1.out.step hy)
    clear hy HI k0 k1 k2 k3 k4 k5 f0 f1 f2 f3 f4 f5 b0 b4 c0 c1 hix
    rcases hz with ⟨hz, rfl⟩ | ⟨k, hk, rfl, hk1, hk2⟩
    · rw [HR.out] at hz; cases hz
    · obtain ⟨g2, q2, so, sc, no, nc, ss, hix, hg2, d0', d1', d2', d3', d4', d5', hla2, hnd⟩ := rl_at HLR.out rc hk
      have d0 := (H2.out.below.cell (p := ⟨g2, q2, none⟩) hg2).trans d0'
      have d1 := (H2.out.below.cell (p := ⟨g2, q2 + 1, none⟩) hg2).trans d1'
      have d2 := (H2.out.below.cell (p := ⟨g2, q2 + 2, none⟩) hg2).trans d2'
      have d3 := (H2.out.below.cell (p := ⟨g2, q2 + 3, none⟩) hg2).trans d3'
      have d4 := (H2.out.below.cell (p := ⟨g2, q2 + 4, none⟩) hg2).trans d4'
      have d5 := (H2.out.below.cell (p := ⟨g2, q2 + 5, none⟩) hg2).trans d5'
      have HE := Lib.hid (HHit.out k hk hk1 hk2)
      generalize t.rels[k] = r at *
      have HR2 := Lib.hid (And.intro hla2 hnd)
      obtain ⟨k0, k1, k2, k3, k4, k5⟩ := box6 H2.out.at1
      obtain ⟨f0, f1, f2, f3, f4, f5⟩ := free6 H2.out.at1
      have hfin := set6_heap H2.out.at1 (.string r.name) (.slice so r.allow.length sc) (.int .i64 r.expr.kind) (.string r.expr.ta) (.string r.expr.tb) (.slice no r.expr.kids.length nc)
      have htu := (set6_turns y2 (w.heap.size + 1 + 1 + 1) (.string r.name) (.slice so r.allow.length sc) (.int .i64 r.expr.kind) (.string r.expr.ta) (.string r.expr.tb) (.slice no r.expr.kids.length nc)).below (B := w.heap.size) H2.out.below.size (fun k hk => by omega)
      have HF := Lib.hid (And.intro hfin (H2.out.below.trans htu))
      clear hfin htu d0' d1' d2' d3' d4' d5' hla2 hnd hg2 hk1 hk2 HHit
      go_wp2_with fail
      change bodyPost _ _ _ _ _ (set6 y2 (w.heap.size + 1 + 1 + 1) (.string r.name) (.slice so r.allow.length sc) (.int .i64 r.expr.kind) (.string r.expr.ta) (.string r.expr.tb) (.slice no r.expr.kids.length nc))
      generalize set6 y2 (w.heap.size + 1 + 1 + 1) (.string r.name) (.slice so r.allow.length sc) (.int .i64 r.expr.kind) (.string r.expr.ta) (.string r.expr.tb) (.slice no r.expr.kids.length nc) = F at *
      obtain ⟨g0, g1, g2, g3, g4, g5⟩ := box6 HF.out.1
      refine bodyPost_ret (v := two (relV r (.slice so r.allow.length sc) (.slice no r.expr.kids.length nc)) (.bool true)) (by simp [results, Tryz.results45, go_sem, g0, g1, g2, g3, g4, g5]) rfl ⟨_, by rw [HE.out]; rfl, ?_, HF.out.2⟩
      rw [HE.out]
      exact ⟨so, sc, no, nc, ss, rfl, HR2.out.1, HR2.out.2⟩

set_option maxHeartbeats 4000000 in
set_option maxRecDepth 100000 in
theorem hasRel_any (l : List Ty) (v : Value) (w : World) (h : IsCf w l v) (ty rl : ByteArray) :
    Calls Tryz.prog 54 #[v, .string ty, .string rl] w fun e x => e = .returned (.bool (relC l ty rl).isSome) ∧ Below w.heap.size w x := by
  have HF := Lib.hid (fun x (hx : Below w.heap.size w x) => find_any l v x (h.below hx) ty rl)
  obtain ⟨ao, cap, us, rfl, hl⟩ := h
  have H0 := Lib.hid ((On.start w).new #[.slice ao l.length cap] tCf rfl)
  have b0 := box1 H0.out.at0
  clear hl
  go_enter Tryz.func54, Tryz.ntmps54
  go_wp2_with fail
  refine (HF.out _ H0.out.below).mono ?_
  rintro e x ⟨u, rfl, hu, hx⟩
  obtain ⟨so, sc, no, nc, ss, rfl, -, -⟩ := hu
  have H1 := Lib.hid ((H0.out.step hx).below)
  clear hx
  go_wp2_with fail
  go_ret
  exact ⟨rfl, H1.out.alloc H1.out.size _⟩
set_option maxHeartbeats 4000000 in
set_option maxRecDepth 100000 in
theorem direct_any (l : List Ty) (v : Value) (w : World) (h : IsCf w l v) (ty rl : ByteArray) :
    Calls Tryz.prog 23 #[v, .string ty, .string rl] w fun e x => e = .returned (.bool (decide (0 < ((relC l ty rl).getD zR).allow.length))) ∧ Below w.heap.size w x := by
  have HF := Lib.hid (fun x (hx : Below w.heap.size w x) => find_any l v x (h.below hx) ty rl)
  obtain ⟨ao, cap, us, rfl, hl⟩ := h
  have H0 := Lib.hid ((On.start w).new #[.slice ao l.length cap] tCf rfl)
  have b0 := box1 H0.out.at0
  clear hl
  go_enter Tryz.func23, Tryz.ntmps23
  go_wp2_with fail
  refine (HF.out _ H0.out.below).mono ?_
  rintro e x ⟨u, rfl, hu, hx⟩
  obtain ⟨so, sc, no, nc, ss, rfl, -, -⟩ := hu
  generalize hr : (relC l ty rl).getD zR = r at *
  have HQ := Lib.hid hr
  have H1 := Lib.hid ((H0.out.step hx).below)
  clear hx hr
  go_wp2_with fail
  go_ret
  exact ⟨by rw [HQ.out]; simp, H1.out.alloc H1.out.size _⟩
set_option maxHeartbeats 4000000 in
set_option maxRecDepth 100000 in
theorem allows_any (r : Rl) (u : Value) (y : L3) (w : World) (h : IsRl w r u) :
    Calls Tryz.prog 47 #[u, agg3 y] w fun e x => e = .returned (.bool (r.allow.any (okB y))) ∧ Below w.heap.size w x := by
  obtain ⟨ao, cap, no, nc, us, rfl, hl, -⟩ := h
  have HA := Lib.hid (fun x => Who.all_free (bs y.1) (bs y.2.1) (bs y.2.2) x)
  simp only [bs_list, Who.all_eq] at HA
  rw [show (Who.kind y.1 y.2.1 y.2.2 == 3) = decide (kind3 y = 3) from rfl] at HA
  have H0 := Lib.hid (((On.start w).new #[.string r.name, .slice ao r.allow.length cap, .int .i64 r.expr.kind, .string r.expr.ta, .string r.expr.tb, .slice no r.expr.kids.length nc] tRl rfl).new #[.string (bs y.1), .string (bs y.2.1), .string (bs y.2.2)] 55 (n := w.heap.size + 1) (by simp))
  obtain ⟨b0, b1, b2⟩ := box3 H0.out.at0
  have HL := Lib.hid hl
  clear hl
  go_enter Tryz.func47, Tryz.ntmps47
  go_wp2_with fail
  refine (HA.out _).mono ?_
  rintro e x ⟨rfl, hx⟩
  have H1 := Lib.hid ((H0.out.step hx).new #[.bool (decide (kind3 y = 3))] 4 rfl)
  clear hx b0 b1 b2
  obtain ⟨-, b1, -⟩ := box6 H1.out.at2
  have HC := Lib.hid (containsAl 85 #[.pointer (some ⟨w.heap.size + 1, 0, none⟩), .pointer (some ⟨x.heap.size, 0, none⟩)] r.allow ao cap us _ (HL.out.on H1.out.below fun _ _ h => h) (okB y) enter_allow fun j hj u z hu hz => by
    obtain ⟨q0, -, q2⟩ := box3 (H1.out.step hz).at1
    rw [show u = alV r.allow[j] from hu]
    exact allow_any y _ _ _ z q0 q2 (box1 (H1.out.step hz).at0))
  go_wp2_with fail
  refine HC.out.mono ?_
  rintro e z ⟨rfl, hz⟩
  have H2 := Lib.hid (H1.out.step hz)
  clear hz
  go_wp2_with fail
  go_ret
  exact ⟨rfl, H2.out.below⟩
end Lo
end Go.Proofs.YtopncohhagebbaaGreatDoor

namespace Go.Proofs.YtopncohhagebbaaGreatDoor
open Go.RowKit
namespace Lo
open Tr (Nd IsNode node4 none0)
open Gr (Al Rl Ty IsAl IsRl IsTy IsCf Lies alV relV tyV tAl tRl tTy tCf box1 box2 box6)
open Cn (box3)
open Lt (same relC relT zR two)
open Bond (L3 kind3 goodB tupV)
open Who (bs bs_list bs_self)

theorem good_any (p : L3 × L3) (x : World) : Calls Tryz.prog 44 #[agg6 p] x fun e y => e = .returned (.bool (goodB p.1 p.2)) ∧ Below x.heap.size x y := by
  have h := Bond.good_free (bs p.1.1) (bs p.1.2.1) (bs p.1.2.2) (bs p.2.1) (bs p.2.2.1) (bs p.2.2.2) x
  simp only [bs_list] at h
  exact h
set_option maxHeartbeats 8000000 in
set_option maxRecDepth 100000 in
theorem fit_any (l : List Ty) (v : Value) (w : World) (h : IsCf w l v) (p : L3 × L3) :
    Calls Tryz.prog 18 #[v, agg6 p] w fun e x => e = .returned (.int .i64 (fitB l p)) ∧ Below w.heap.size w x := by
  have HG := Lib.hid (fun x => good_any p x)
  have HF := Lib.hid (fun x (hx : Below w.heap.size w x) => find_any l v x (h.below hx) (bs p.1.1) (bs p.1.2.2))
  have HT := Lib.hid (fun x (hx : Below w.heap.size w x) => hasType_any l v x (h.below hx) (bs p.2.1))
  have HA := Lib.hid (fun r u x hu => allows_any r u p.2 x hu)
  have HE := Lib.hid (show fitB l p = fitV (goodB p.1 p.2) (relC l (bs p.1.1) (bs p.1.2.2)).isSome (hasT l (bs p.2.1)) (((relC l (bs p.1.1) (bs p.1.2.2)).getD zR).allow.any (okB p.2)) from rfl)
  obtain ⟨ao, cap, us, rfl, -⟩ := h
  have H0 := Lib.hid (((On.start w).new #[.slice ao l.length cap] tCf rfl).new #[.string (bs p.1.1), .string (bs p.1.2.1), .string (bs p.1.2.2), .string (bs p.2.1), .string (bs p.2.2.1), .string (bs p.2.2.2)] 57 (n := w.heap.size + 1) (by simp))
  generalize goodB p.1 p.2 = gd at *
  generalize (relC l (bs p.1.1) (bs p.1.2.2)).isSome = so at *
  generalize (relC l (bs p.1.1) (bs p.1.2.2)).getD zR = r at *
  generalize hasT l (bs p.2.1) = ht at *
  obtain ⟨c0, c1, c2, c3, c4, c5⟩ := box6 H0.out.at0
  go_enter Tryz.func18, Tryz.ntmps18
  go_wp2_with fail
  refine (HG.out _).mono ?_
  rintro e x1 ⟨rfl, hx⟩
  have H1 := Lib.hid (H0.out.step hx)
  clear hx H0 HG c0 c1 c2 c3 c4 c5
  cases gd with
  | false =>
    go_wp2_with fail
    go_ret
    exact ⟨by rw [HE.out]; rfl, H1.out.below⟩
  | true =>
    obtain ⟨c0, c1, c2, c3, c4, c5⟩ := box6 H1.out.at0
    have b0 := box1 H1.out.at1
    go_wp2_with fail
    refine (HF.out _ H1.out.below).mono ?_
    rintro e x2 ⟨u, rfl, hu, hx⟩
    obtain ⟨q0, qc, qn, qm, qs, rfl, hq1, hq2⟩ := hu
    have H2 := Lib.hid ((H1.out.step hx).new #[.string r.name, .slice q0 r.allow.length qc, .int .i64 r.expr.kind, .string r.expr.ta, .string r.expr.tb, .slice qn r.expr.kids.length qm] tRl rfl)
    have hb2 := hx.trans ((Tr.fresh_one x2 (.cells #[.string r.name, .slice q0 r.allow.length qc, .int .i64 r.expr.kind, .string r.expr.ta, .string r.expr.tb, .slice qn r.expr.kids.length qm] tRl)).mono hx.size)
    have HR := Lib.hid ((show IsRl x1 r (relV r (.slice q0 r.allow.length qc) (.slice qn r.expr.kids.length qm)) from ⟨q0, qc, qn, qm, qs, rfl, hq1, hq2⟩).below hb2)
    clear hx hq1 hq2 hb2 c0 c1 c2 c3 c4 c5 b0 H1 HF
    cases so with
    | false =>
      go_wp2_with fail
      go_ret
      exact ⟨by rw [HE.out]; rfl, H2.out.below⟩
    | true =>
      obtain ⟨-, -, -, c3, c4, c5⟩ := box6 H2.out.at1
      have b0 := box1 H2.out.at2
      go_wp2_with fail
      generalize x2.alloc (.cells #[.string r.name, .slice q0 r.allow.length qc, .int .i64 r.expr.kind, .string r.expr.ta, .string r.expr.tb, .slice qn r.expr.kids.length qm] tRl) = X at *
      generalize x2.heap.size = R2 at *
      refine (HT.out _ H2.out.below).mono ?_
      rintro e x3 ⟨rfl, hx⟩
      have H3 := Lib.hid (H2.out.step hx)
      have HR3 := Lib.hid (HR.out.below hx)
      clear hx c3 c4 c5 b0 H2 HT HR
      cases ht with
      | false =>
        go_wp2_with fail
        go_ret
        exact ⟨by rw [HE.out]; rfl, H3.out.below⟩
      | true =>
        obtain ⟨-, -, -, c3, c4, c5⟩ := box6 H3.out.at1
        obtain ⟨d0, d1, d2, d3, d4, d5⟩ := box6 H3.out.at0
        have HAA := Lib.hid (HA.out r _ x3 HR3.out)
        generalize r.allow.any (okB p.2) = aa at *
        go_wp2_with fail
        refine HAA.out.mono ?_
        rintro e x4 ⟨rfl, hx⟩
        have H4 := Lib.hid (H3.out.step hx)
        clear hx
        cases aa with
        | false =>
          go_wp2_with fail
          go_ret
          exact ⟨by rw [HE.out]; rfl, H4.out.below⟩
        | true =>
          go_wp2_with fail
          go_ret
          exact ⟨by rw [HE.out]; rfl, H4.out.below⟩

set_option maxHeartbeats 4000000 in
set_option maxRecDepth 100000 in
theorem unfits_any (l : List Ty) (ao : Option Addr) (cap : Nat) (us : List Value) (g : Nat) (p : L3 × L3) (w : World) (h : Lies IsTy 2 w ao l us) (hc : w.cell? ⟨g, 0, none⟩ = some (.slice ao l.length cap)) :
    Calls Tryz.prog 49 #[agg6 p, .pointer (some ⟨g, 0, none⟩)] w fun e x => e = .returned (.bool (fitB l p != 0)) ∧ Below w.heap.size w x := by
  have H0 := Lib.hid ((On.start w).new #[.string (bs p.1.1), .string (bs p.1.2.1), .string (bs p.1.2.2), .string (bs p.2.1), .string (bs p.2.2.1), .string (bs p.2.2.2)] 57 rfl)
  have HC := Lib.hid (fit_any l (.agg #[.slice ao l.length cap]) _ (IsCf.below ⟨ao, cap, us, rfl, h⟩ H0.out.below) p)
  obtain ⟨c0, c1, c2, c3, c4, c5⟩ := box6 H0.out.at0
  have b0 := (H0.out.below.cell (p := ⟨g, 0, none⟩) (World.block_lt_of_cell? w _ hc)).trans hc
  clear hc h
  generalize fitB l p = z at *
  go_enter Tryz.func49, Tryz.ntmps49
  go_wp2_with fail
  refine HC.out.mono ?_
  rintro e x ⟨rfl, hx⟩
  have H1 := Lib.hid (H0.out.step hx)
  clear hx
  go_wp2_with fail
  go_ret
  exact ⟨rfl, H1.out.below⟩
set_option maxHeartbeats 4000000 in
set_option maxRecDepth 100000 in
theorem unfit_any (l : List Ty) (v : Value) (w : World) (h : IsCf w l v) (ts : List (L3 × L3)) (tao : Option Addr) (tc : Nat) (ht : IsTups w (.slice tao ts.length tc) ts) (hbig : ts.length ≤ 9223372036854775807) :
    Calls Tryz.prog 19 #[v, .slice tao ts.length tc] w fun e x => ∃ z : Int, e = .returned (.int .i64 z) ∧ Idx (fun p => fitB l p != 0) ts z ∧ Below w.heap.size w x := by
  obtain ⟨ao, cap, us, rfl, hl⟩ := h
  have H0 := Lib.hid ((On.start w).new #[.slice ao l.length cap] tCf rfl)
  have HC := Lib.hid (indexTp 49 #[.pointer (some ⟨w.heap.size, 0, none⟩)] ts tao tc _ (ht.below H0.out.below) hbig (fun p => fitB l p != 0) enter_unfit fun j hj u x hu hx => by
    have h1 := H0.out.step hx
    rw [hu]
    exact unfits_any l ao cap us _ ts[j] x (hl.on h1.below fun _ _ h => h.below h1.below) (box1 h1.at0))
  clear hl ht hbig
  go_enter Tryz.func19, Tryz.ntmps19
  go_wp2_with fail
  refine HC.out.mono ?_
  rintro e x ⟨z, rfl, hz, hx⟩
  have H1 := Lib.hid (And.intro hz (H0.out.step hx))
  clear hx hz
  go_wp2_with fail
  go_ret
  exact ⟨_, rfl, H1.out.1, H1.out.2.below⟩
end Lo
end Go.Proofs.YtopncohhagebbaaGreatDoor
