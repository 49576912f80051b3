/-
  Layer 10 (cask), pure: what few bytes are unpacked as is small; the document's limits unpack as the program's do.
-/
import Derived.Test.YtopncohhagebbaaDoorCkDr
import Derived.Test.YtopncohhagebbaaDoorCkGood
import Derived.Test.YtopncohhagebbaaDoorCnRGood
namespace Go.Proofs.YtopncohhagebbaaDoor
open Go.RowKit
namespace Ck
open Knot (takeN takeT takeM number textB markB)
open Tr (Nd none0 size sizes)
open Who (bs bs_list bs_size)
open Gr (Al Rl Ty Fit)
open Cn (ShortC ShortR)

/-- A type, by its head. -/
theorem type_head (lim : Nat → Int) (l : List UInt8) {a q : Nat} (ha : a = (textS l 16).2) (hq : q = (numS (l.drop a) 1048576).2) :
    typeT 1048576 lim l = if a = 0 ∨ q = 0 then none else
      match repsT (relT 1048576 lim) (numS (l.drop a) 1048576).1 (l.drop (a + q)) with
      | none => none
      | some (xs, r) => some (⟨(textS l 16).1, xs⟩, r) := by
  by_cases h1 : a = 0
  · rw [if_pos (.inl h1), typeT, textS_none (by omega)]
  obtain ⟨t, e1, e1', -⟩ := textS_some (l := l) (most := 16) (by omega)
  rw [← ha] at e1
  by_cases h2 : q = 0
  · rw [if_pos (.inr h2), typeT, e1]
    simp only [listT]
    rw [numS_no (by omega)]
  have e2 := (numS_yes (l := l.drop a) (most := 1048576) (by omega)).1
  rw [← hq, List.drop_drop] at e2
  rw [if_neg (by omega), typeT, e1]
  simp only [listT]
  rw [e2, e1']
  simp only
  cases repsT (relT 1048576 lim) (numS (l.drop a) 1048576).1 (l.drop (a + q)) with
  | none => rfl
  | some p => rfl
theorem conf_head (lim : Nat → Int) (l : List UInt8) {q : Nat} (hq : q = (numS l 1048576).2) :
    confT 1048576 lim l = if q = 0 then none else repsT (typeT 1048576 lim) (numS l 1048576).1 (l.drop q) := by
  by_cases h2 : q = 0
  · rw [if_pos h2, confT, listT, numS_no (by omega)]
  have e2 := (numS_yes (l := l) (most := 1048576) (by omega)).1
  rw [← hq] at e2
  rw [if_neg h2, confT, listT, e2]

mutual
theorem node_bytes : ∀ n : Nd, size n ≤ (nodeB n).length
  | .mk k a b l => by
    have h1 := nodes_bytes l
    have h2 := number_pos k.toNat
    rw [size, nodeB]
    simp only [List.length_append]
    omega
theorem nodes_bytes : ∀ l : List Nd, sizes l ≤ (nodesB l).length
  | [] => Nat.zero_le _
  | n :: l => by
    have h1 := node_bytes n
    have h2 := nodes_bytes l
    rw [sizes, nodesB, List.length_append]
    omega
end
theorem part_len {α : Type} {f : α → List UInt8} {l : List α} {a : α} (h : a ∈ l) : (f a).length ≤ (listB f l).length := by
  have key : ∀ m : List α, a ∈ m → (f a).length ≤ (m.flatMap f).length := by
    intro m
    induction m with
    | nil => intro h; simp at h
    | cons b m ih =>
      intro h
      rw [List.flatMap_cons, List.length_append]
      rcases List.mem_cons.1 h with rfl | h
      · omega
      · have := ih h; omega
  have := key l h
  rw [listB, List.length_append]
  omega
theorem text_len (s : ByteArray) : s.size ≤ (textB s.data.toList).length := by
  rw [textB, Lib.size_eq]
  simp only [List.length_append]
  omega
/-- What has few bytes is small. -/
theorem conf_small {T : List Ty} {n : Nat} (h : (confB T).length ≤ n) (hn : n ≤ 100000) : ShortC T ∧ Fit T := by
  have ht : ∀ t ∈ T, (typeB t).length ≤ n := fun t ht => Nat.le_trans (part_len (f := typeB) ht) h
  have hname : ∀ t ∈ T, t.name.size ≤ n := fun t hm => by
    have h1 := ht t hm
    have h2 := text_len t.name
    rw [typeB, List.length_append] at h1
    omega
  have hr : ∀ t ∈ T, ∀ r ∈ t.rels, (relB r).length ≤ n := fun t hm r hr => by
    have h1 := ht t hm
    have h2 := part_len (f := relB) hr
    rw [typeB, List.length_append] at h1
    omega
  have hml : (100000 : Nat) ≤ maxLen := by decide
  refine ⟨fun t hm => ⟨by have := hname t hm; omega, fun r hrm => ?_⟩, fun t hm r hrm => ?_⟩
  · have h1 := hr t hm r hrm
    rw [relB] at h1
    simp only [List.length_append] at h1
    refine ⟨by have := text_len r.name; omega, fun a ha => ?_⟩
    have h2 := part_len (f := allowB) ha
    rw [allowB] at h2
    simp only [List.length_append] at h2
    have := text_len a.ty
    have := text_len a.rel
    exact ⟨by omega, by omega⟩
  · have h1 := hr t hm r hrm
    have h2 := node_bytes r.expr
    rw [relB] at h1
    simp only [List.length_append] at h1
    omega
theorem lim1_lim : Lim lim1 := ⟨show (0 : Int) ≤ 1048576 by omega, fun _ => show (24 : Int) ≤ 1048576 by omega⟩
theorem few_pow {n : Nat} (h : n ≤ 4000) : n < 10 ^ 17 := Nat.lt_of_le_of_lt h (show 4000 < 100000000000000000 by omega)
theorem unpack_not {l : List UInt8} (hlen : l.length ≤ 4000) (h : ∀ T, confT 1048576 lim1 l = some (T, []) → Cn.gC T = false) : unpack l = none := by
  cases hu : unpack l with
  | none => rfl
  | some T =>
    obtain ⟨e, hg⟩ := unpack_of hu
    have hl := conf_lens T
    rw [← e] at hl
    have h1 := conf_goes 1048576 lim1 T [] (good_okC (N := l.length) lim1_lim hg hl (few_pow hlen) (by omega))
    rw [List.append_nil, ← e] at h1
    rw [h T h1] at hg
    cases hg
theorem unpack_yes {l : List UInt8} {T : List Ty} (hlen : l.length ≤ 4000) (h : confT 1048576 lim1 l = some (T, [])) (hg : Cn.gC T = true) : unpack l = some T := by
  have e := conf_sound 1048576 lim1 _ _ _ h
  rw [List.append_nil] at e
  rw [e]
  refine unpack_again hg ?_
  rw [← e]
  exact few_pow hlen
end Ck
end Go.Proofs.YtopncohhagebbaaDoor
