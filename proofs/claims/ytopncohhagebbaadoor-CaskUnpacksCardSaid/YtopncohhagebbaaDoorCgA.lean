/-
  Plain mathematics of layer 10 (cask): a configuration's bytes, and how they are taken again: what is taken has just those bytes, and what was tied is taken. No program is named here.
  Plain mathematics of layer 10 (cask): the number at the front, byte by byte. No program is named here.
  Plain mathematics of layer 10 (cask): the program's taking, step by step: what is left, and whether it has failed; what comes of it is what is taken, or it has failed. No program is named here.
-/
import Derived.Test.YtopncohhagebbaaDoorKgI
import Derived.Test.YtopncohhagebbaaDoorMgPure
namespace Go.Proofs.YtopncohhagebbaaDoor
open Go.RowKit
namespace Ck
open Knot (number textB markB takeN takeT takeM digits value)
open Tr (Nd none0)
open Gr (Al Rl Ty)
open Who (bs bs_list bs_size bs_self eq_of_list cut)

/-! ### tied -/
mutual
def nodeB : Nd → List UInt8
  | .mk k a b l => number k.toNat ++ (textB a.data.toList ++ (textB b.data.toList ++ (number l.length ++ nodesB l)))
def nodesB : List Nd → List UInt8
  | [] => []
  | n :: r => nodeB n ++ nodesB r
end
theorem nodesB_flat : ∀ l : List Nd, nodesB l = l.flatMap nodeB
  | [] => by rw [nodesB]; rfl
  | n :: r => by rw [nodesB, nodesB_flat r, List.flatMap_cons]
/-- A list, each thing of it tied by f. -/
def listB {α : Type} (f : α → List UInt8) (l : List α) : List UInt8 := number l.length ++ l.flatMap f
theorem nodeB_eq (n : Nd) : nodeB n = number n.kind.toNat ++ (textB n.ta.data.toList ++ (textB n.tb.data.toList ++ listB nodeB n.kids)) := by
  cases n
  rw [nodeB, nodesB_flat]
  rfl
def allowB (a : Al) : List UInt8 := textB a.ty.data.toList ++ (textB a.rel.data.toList ++ markB a.wild)
def relB (r : Rl) : List UInt8 := textB r.name.data.toList ++ (listB allowB r.allow ++ nodeB r.expr)
def typeB (t : Ty) : List UInt8 := textB t.name.data.toList ++ listB relB t.rels
def confB (l : List Ty) : List UInt8 := listB typeB l

/-! ### numbers, texts, marks: what is taken has those bytes -/
theorem number_pos (n : Nat) : 1 ≤ (number n).length := by rw [number, List.length_append, List.length_singleton]; omega
theorem heads_of {d : List UInt8} : ∀ (l : List UInt8), (∀ b ∈ l, 48 ≤ b.toNat ∧ b.toNat ≤ 57) → ∀ b : UInt8, 48 ≤ b.toNat ∧ b.toNat ≤ 57 → (l = [] ∨ value 0 l ≠ 0) → (l ≠ [] → digits (value 0 l) = l) → d = l ++ [b] → digits (value 0 d) = d := by
  intro l hl b hb h0 hd e
  subst e
  have e1 : value 0 (l ++ [b]) = value 0 l * 10 + (b.toNat - 48) := by rw [Knot.value_append, Knot.value_one]
  have edig : Knot.dig (value 0 l * 10 + (b.toNat - 48)) = b := by
    apply UInt8.toNat_inj.1
    rw [Knot.dig_nat]
    omega
  rw [e1]
  by_cases hnil : l = []
  · subst hnil
    rw [Knot.value_nil] at *
    rw [Knot.digits_low (by omega), List.nil_append]
    rw [edig]
  · have h1 : value 0 l ≠ 0 := h0.resolve_left hnil
    rw [Knot.digits_high (by omega), edig, show (value 0 l * 10 + (b.toNat - 48)) / 10 = value 0 l by omega, hd hnil]
/-- Digits without a nought ahead are those of the number that they tell. -/
theorem digits_value : ∀ (k : Nat) (d : List UInt8), d.length = k → 1 ≤ d.length → (∀ b ∈ d, 48 ≤ b.toNat ∧ b.toNat ≤ 57) → (1 < d.length → d.head? ≠ some 48) → digits (value 0 d) = d
  | 0, d, hk, h, _, _ => by omega
  | k + 1, d, hk, h, hb, hh => by
    obtain ⟨l, b, rfl⟩ : ∃ l b, d = l ++ [b] := by
      have hne : d ≠ [] := fun e => by rw [e] at h; simp at h
      exact ⟨d.dropLast, d.getLast hne, (List.dropLast_concat_getLast hne).symm⟩
    have hl : ∀ x ∈ l, 48 ≤ x.toNat ∧ x.toNat ≤ 57 := fun x hx => hb x (List.mem_append_left _ hx)
    have hlen : l.length = k := by rw [List.length_append, List.length_singleton] at hk; omega
    refine heads_of l hl b (hb b (by simp)) ?_ (fun hne => ?_) rfl
    · by_cases hne : l = []
      · exact .inl hne
      · right
        match l, hne with
        | a :: m, _ =>
          have h1 := hh (by simp)
          have ha := hl a (by simp)
          have h2 : a ≠ 48 := fun e => h1 (by rw [e]; rfl)
          have h3 : a.toNat ≠ 48 := fun e => h2 (UInt8.toNat_inj.1 e)
          rw [Knot.value_cons]
          have h4 := Knot.value_ge m (Knot.more 0 a)
          rw [Knot.more_eq] at h4 ⊢
          omega
    · have hpos := List.length_pos_iff.2 hne
      refine digits_value k l hlen (by omega) hl fun h1 => ?_
      match l, hne with
      | a :: m, _ =>
        have h2 := hh (by simp)
        simpa using h2
theorem takeN_of {l r : List UInt8} {most : Int} {n : Nat} (h : takeN l most = some (n, r)) : l = number n ++ r ∧ (n : Int) ≤ most ∧ n < 10 ^ 17 := by
  rw [takeN] at h
  cases hc : cut 59 l with
  | none => rw [hc] at h; cases h
  | some p =>
    obtain ⟨d, x⟩ := p
    rw [hc] at h
    dsimp only at h
    split at h
    · rename_i hif
      obtain ⟨⟨h1, h17⟩, h2, h3, h4⟩ := hif
      obtain ⟨e1, e2⟩ := Prod.mk.inj (Option.some.inj h)
      subst e1 e2
      have h5 := Knot.pre_lt h2 d.length (Nat.le_refl _)
      rw [List.take_length] at h5
      refine ⟨?_, h3, Nat.lt_of_lt_of_le h5 (Nat.pow_le_pow_right (by decide) h17)⟩
      rw [number, digits_value _ d rfl h1 h2 h4, (Who.cut_of hc).1]
      simp
    · cases h
theorem takeT_of {l r t : List UInt8} {most : Int} (h : takeT l most = some (t, r)) : l = textB t ++ r ∧ (t.length : Int) ≤ most := by
  rw [takeT] at h
  cases hc : takeN l most with
  | none => rw [hc] at h; cases h
  | some p =>
    obtain ⟨n, x⟩ := p
    rw [hc] at h
    dsimp only at h
    split at h
    · rename_i hx
      obtain ⟨e1, e2⟩ := Prod.mk.inj (Option.some.inj h)
      obtain ⟨e3, e4, -⟩ := takeN_of hc
      have hlt := (List.getElem?_eq_some_iff.1 hx).1
      have hlen : t.length = n := by rw [← e1, List.length_take]; omega
      refine ⟨?_, by omega⟩
      rw [textB, hlen, e3, ← e1, ← e2]
      have h5 : x = x.take n ++ 44 :: x.drop (n + 1) := by
        conv => lhs; rw [← List.take_append_drop n x]
        rw [List.drop_eq_getElem_cons hlt, (List.getElem?_eq_some_iff.1 hx).2]
      conv => lhs; rw [h5]
      simp
    · cases h
theorem takeM_of {l r : List UInt8} {m : Bool} (h : takeM l = some (m, r)) : l = markB m ++ r := by
  match l, h with
  | c :: x, h =>
    unfold takeM at h
    split at h
    · rename_i e
      obtain ⟨rfl, rfl⟩ := List.cons.inj e
      obtain ⟨rfl, rfl⟩ := Prod.mk.inj (Option.some.inj h)
      rfl
    · rename_i e
      obtain ⟨rfl, rfl⟩ := List.cons.inj e
      obtain ⟨rfl, rfl⟩ := Prod.mk.inj (Option.some.inj h)
      rfl
    · cases h
theorem takeN_nil (most : Int) : takeN [] most = none := rfl
theorem takeT_nil (most : Int) : takeT [] most = none := rfl

/-! ### taken, or not -/
abbrev Tk (α : Type) : Type := List UInt8 → Option (α × List UInt8)
def repsT {α : Type} (t : Tk α) : Nat → Tk (List α)
  | 0, s => some ([], s)
  | n + 1, s => match t s with
    | none => none
    | some (x, r) => match repsT t n r with
      | none => none
      | some (xs, q) => some (x :: xs, q)
def listT {α : Type} (most : Int) (t : Tk α) : Tk (List α) := fun s => match takeN s most with
  | none => none
  | some (n, r) => repsT t n r
def nodeT (lim : Nat → Int) : Nat → Tk Nd
  | 0, _ => none
  | d + 1, s => match takeN s 6 with
    | none => none
    | some (k, s1) => match takeT s1 16 with
      | none => none
      | some (a, s2) => match takeT s2 16 with
        | none => none
        | some (b, s3) => match listT (lim d) (nodeT lim d) s3 with
          | none => none
          | some (l, s4) => some (.mk k (bs a) (bs b) l, s4)
def allowT : Tk Al := fun s => match takeT s 16 with
  | none => none
  | some (a, s1) => match takeT s1 16 with
    | none => none
    | some (b, s2) => match takeM s2 with
      | none => none
      | some (m, s3) => some (⟨bs a, bs b, m⟩, s3)
def relT (big : Int) (lim : Nat → Int) : Tk Rl := fun s => match takeT s 16 with
  | none => none
  | some (a, s1) => match listT big allowT s1 with
    | none => none
    | some (l, s2) => match nodeT lim 8 s2 with
      | none => none
      | some (n, s3) => some (⟨bs a, l, n⟩, s3)
def typeT (big : Int) (lim : Nat → Int) : Tk Ty := fun s => match takeT s 16 with
  | none => none
  | some (a, s1) => match listT big (relT big lim) s1 with
    | none => none
    | some (l, s2) => some (⟨bs a, l⟩, s2)
def confT (big : Int) (lim : Nat → Int) : Tk (List Ty) := listT big (typeT big lim)

/-- What is taken has those bytes. -/
def Sound {α : Type} (t : Tk α) (f : α → List UInt8) : Prop := ∀ s x r, t s = some (x, r) → s = f x ++ r
/-- What was tied is taken. -/
def Goes {α : Type} (t : Tk α) (f : α → List UInt8) (ok : α → Prop) : Prop := ∀ x y, ok x → t (f x ++ y) = some (x, y)
section
variable {α : Type} {t : Tk α} {f : α → List UInt8} {ok : α → Prop}
theorem reps_sound (h : Sound t f) : ∀ n s l r, repsT t n s = some (l, r) → s = l.flatMap f ++ r ∧ l.length = n
  | 0, s, l, r, e => by
    rw [repsT] at e
    obtain ⟨rfl, rfl⟩ := Prod.mk.inj (Option.some.inj e)
    exact ⟨rfl, rfl⟩
  | n + 1, s, l, r, e => by
    rw [repsT] at e
    split at e
    · cases e
    · rename_i x q hx
      split at e
      · cases e
      · rename_i xs q' hxs
        obtain ⟨rfl, rfl⟩ := Prod.mk.inj (Option.some.inj e)
        obtain ⟨e1, e2⟩ := reps_sound h n _ _ _ hxs
        refine ⟨?_, by rw [List.length_cons, e2]⟩
        rw [h _ _ _ hx, e1, List.flatMap_cons, List.append_assoc]
theorem list_sound (h : Sound t f) (most : Int) : Sound (listT most t) (listB f) := fun s l r e => by
  rw [listT] at e
  split at e
  · cases e
  · rename_i n q hn
    obtain ⟨e1, e2⟩ := reps_sound h _ _ _ _ e
    rw [(takeN_of hn).1, listB, e1, e2, List.append_assoc]
theorem reps_goes (h : Goes t f ok) : ∀ (l : List α) y, (∀ x ∈ l, ok x) → repsT t l.length (l.flatMap f ++ y) = some (l, y)
  | [], y, _ => rfl
  | x :: l, y, hl => by
    rw [List.length_cons, repsT, List.flatMap_cons, List.append_assoc, h x _ (hl x (List.mem_cons_self ..))]
    dsimp only
    rw [reps_goes h l y fun a ha => hl a (List.mem_cons_of_mem _ ha)]
theorem list_goes (h : Goes t f ok) (most : Int) : Goes (listT most t) (listB f) (fun l => l.length < 10 ^ 17 ∧ (l.length : Int) ≤ most ∧ ∀ x ∈ l, ok x) := fun l y hl => by
  rw [listT, listB, List.append_assoc, Knot.take_number _ hl.1 hl.2.1]
  exact reps_goes h l y hl.2.2
end
theorem node_sound (lim : Nat → Int) : ∀ d, Sound (nodeT lim d) nodeB
  | 0, s, x, r, e => by rw [nodeT] at e; cases e
  | d + 1, s, x, r, e => by
    rw [nodeT] at e
    split at e
    · cases e
    · rename_i k s1 h1
      split at e
      · cases e
      · rename_i a s2 h2
        split at e
        · cases e
        · rename_i b s3 h3
          split at e
          · cases e
          · rename_i l s4 h4
            obtain ⟨rfl, rfl⟩ := Prod.mk.inj (Option.some.inj e)
            rw [nodeB_eq]
            simp only [Nd.kind, Nd.ta, Nd.tb, Nd.kids, Int.toNat_natCast, bs_list]
            rw [(takeN_of h1).1, (takeT_of h2).1, (takeT_of h3).1, list_sound (node_sound lim d) _ _ _ _ h4]
            simp
theorem allow_sound : Sound allowT allowB := fun s x r e => by
  rw [allowT] at e
  split at e
  · cases e
  · rename_i a s1 h1
    split at e
    · cases e
    · rename_i b s2 h2
      split at e
      · cases e
      · rename_i m s3 h3
        obtain ⟨rfl, rfl⟩ := Prod.mk.inj (Option.some.inj e)
        rw [allowB]
        simp only [bs_list]
        rw [(takeT_of h1).1, (takeT_of h2).1, takeM_of h3]
        simp
theorem rel_sound (big : Int) (lim : Nat → Int) : Sound (relT big lim) relB := fun s x r e => by
  rw [relT] at e
  split at e
  · cases e
  · rename_i a s1 h1
    split at e
    · cases e
    · rename_i l s2 h2
      split at e
      · cases e
      · rename_i n s3 h3
        obtain ⟨rfl, rfl⟩ := Prod.mk.inj (Option.some.inj e)
        rw [relB]
        simp only [bs_list]
        rw [(takeT_of h1).1, list_sound allow_sound _ _ _ _ h2, node_sound lim 8 _ _ _ h3]
        simp
theorem type_sound (big : Int) (lim : Nat → Int) : Sound (typeT big lim) typeB := fun s x r e => by
  rw [typeT] at e
  split at e
  · cases e
  · rename_i a s1 h1
    split at e
    · cases e
    · rename_i l s2 h2
      obtain ⟨rfl, rfl⟩ := Prod.mk.inj (Option.some.inj e)
      rw [typeB]
      simp only [bs_list]
      rw [(takeT_of h1).1, list_sound (rel_sound big lim) _ _ _ _ h2]
      simp
theorem conf_sound (big : Int) (lim : Nat → Int) : Sound (confT big lim) confB := list_sound (type_sound big lim) big

/-! ### what is taken again -/
def okN (lim : Nat → Int) : Nat → Nd → Prop
  | 0, _ => False
  | d + 1, n => (0 ≤ n.kind ∧ n.kind ≤ 6) ∧ n.ta.size ≤ 16 ∧ n.tb.size ≤ 16 ∧ (n.kids.length < 10 ^ 17 ∧ (n.kids.length : Int) ≤ lim d ∧ ∀ m ∈ n.kids, okN lim d m)
theorem text_goes {s : ByteArray} (y : List UInt8) (h : s.size ≤ 16) : takeT (textB s.data.toList ++ y) 16 = some (s.data.toList, y) := by
  rw [Lib.size_eq] at h
  exact Knot.take_text y (by omega) (by omega)
theorem node_goes (lim : Nat → Int) : ∀ d, Goes (nodeT lim d) nodeB (okN lim d)
  | 0, x, y, h => h.elim
  | d + 1, x, y, h => by
    obtain ⟨⟨h0, h6⟩, ha, hb, hk⟩ := h
    rw [nodeB_eq, nodeT]
    simp only [List.append_assoc]
    rw [Knot.take_number _ (by omega) (by omega)]
    dsimp only
    rw [text_goes _ ha]
    dsimp only
    rw [text_goes _ hb]
    dsimp only
    rw [list_goes (node_goes lim d) (lim d) x.kids y hk]
    dsimp only
    rw [bs_self, bs_self, Int.toNat_of_nonneg h0]
    cases x
    rfl
def okA (a : Al) : Prop := a.ty.size ≤ 16 ∧ a.rel.size ≤ 16
theorem allow_goes : Goes allowT allowB okA := fun x y h => by
  rw [allowB, allowT]
  simp only [List.append_assoc]
  rw [text_goes _ h.1]
  dsimp only
  rw [text_goes _ h.2]
  dsimp only
  rw [Knot.take_mark]
  dsimp only
  rw [bs_self, bs_self]
def okL {α : Type} (big : Int) (ok : α → Prop) (l : List α) : Prop := l.length < 10 ^ 17 ∧ (l.length : Int) ≤ big ∧ ∀ x ∈ l, ok x
def okR (big : Int) (lim : Nat → Int) (r : Rl) : Prop := r.name.size ≤ 16 ∧ okL big okA r.allow ∧ okN lim 8 r.expr
theorem rel_goes (big : Int) (lim : Nat → Int) : Goes (relT big lim) relB (okR big lim) := fun x y h => by
  rw [relB, relT]
  simp only [List.append_assoc]
  rw [text_goes _ h.1]
  dsimp only
  rw [list_goes allow_goes big _ _ h.2.1]
  dsimp only
  rw [node_goes lim 8 _ _ h.2.2]
  dsimp only
  rw [bs_self]
def okT (big : Int) (lim : Nat → Int) (t : Ty) : Prop := t.name.size ≤ 16 ∧ okL big (okR big lim) t.rels
theorem type_goes (big : Int) (lim : Nat → Int) : Goes (typeT big lim) typeB (okT big lim) := fun x y h => by
  rw [typeB, typeT]
  simp only [List.append_assoc]
  rw [text_goes _ h.1]
  dsimp only
  rw [list_goes (rel_goes big lim) big _ _ h.2]
  dsimp only
  rw [bs_self]
def okC (big : Int) (lim : Nat → Int) (l : List Ty) : Prop := okL big (okT big lim) l
theorem conf_goes (big : Int) (lim : Nat → Int) : Goes (confT big lim) confB (okC big lim) := list_goes (type_goes big lim) big

/-- What was tied has no list of more things than bytes. -/
theorem flat_len {α : Type} {f : α → List UInt8} (hf : ∀ a, 1 ≤ (f a).length) : ∀ l : List α, l.length ≤ (l.flatMap f).length
  | [] => Nat.zero_le _
  | a :: l => by
    rw [List.flatMap_cons, List.length_append, List.length_cons]
    have := hf a
    have := flat_len hf l
    omega
theorem flat_mem {α : Type} {f : α → List UInt8} : ∀ {l : List α} {a : α}, a ∈ l → (f a).length ≤ (l.flatMap f).length
  | b :: l, a, h => by
    rw [List.flatMap_cons, List.length_append]
    rcases List.mem_cons.1 h with rfl | h
    · omega
    · have := flat_mem (f := f) h
      omega
theorem textB_pos (s : List UInt8) : 1 ≤ (textB s).length := by rw [textB, List.length_append]; have := number_pos s.length; omega
theorem allowB_pos (a : Al) : 1 ≤ (allowB a).length := by rw [allowB, List.length_append]; have := textB_pos a.ty.data.toList; omega
theorem relB_pos (r : Rl) : 1 ≤ (relB r).length := by rw [relB, List.length_append]; have := textB_pos r.name.data.toList; omega
theorem typeB_pos (t : Ty) : 1 ≤ (typeB t).length := by rw [typeB, List.length_append]; have := textB_pos t.name.data.toList; omega
theorem nodeB_pos (n : Nd) : 1 ≤ (nodeB n).length := by rw [nodeB_eq, List.length_append]; have := number_pos n.kind.toNat; omega
theorem listB_len {α : Type} {f : α → List UInt8} (hf : ∀ a, 1 ≤ (f a).length) (l : List α) : l.length + 1 ≤ (listB f l).length := by
  rw [listB, List.length_append]
  have := flat_len hf l
  have := number_pos l.length
  omega
theorem listB_mem {α : Type} {f : α → List UInt8} {l : List α} {a : α} (h : a ∈ l) : (f a).length ≤ (listB f l).length := by
  rw [listB, List.length_append]
  have := flat_mem (f := f) h
  omega
end Ck
end Go.Proofs.YtopncohhagebbaaDoor

namespace Go.Proofs.YtopncohhagebbaaDoor
open Go.RowKit
namespace Ck
open Knot (takeN takeT takeM value)
open Who (cut)

/-- The number at the front, and of how many bytes it is; of none, if none of at most so much stands there. -/
def numS (l : List UInt8) (most : Int) : Nat × Nat := match takeN l most with
  | none => (0, 0)
  | some (n, r) => (n, l.length - r.length)
/-- So far there are digits alone. -/
def Pre (l : List UInt8) (pos : Nat) : Prop := pos ≤ l.length ∧ pos ≤ 17 ∧ ∀ b ∈ l.take pos, 48 ≤ b.toNat ∧ b.toNat ≤ 57
theorem pre_zero (l : List UInt8) : Pre l 0 := ⟨Nat.zero_le _, by omega, by simp⟩
theorem takeN_split {l r : List UInt8} {most : Int} {n : Nat} (h : takeN l most = some (n, r)) : ∃ d, l = d ++ 59 :: r ∧ (1 ≤ d.length ∧ d.length ≤ 17) ∧ (∀ b ∈ d, 48 ≤ b.toNat ∧ b.toNat ≤ 57) ∧ (value 0 d : Int) ≤ most ∧ (1 < d.length → d.head? ≠ some 48) ∧ n = value 0 d := by
  rw [takeN] at h
  cases hc : cut 59 l with
  | none => rw [hc] at h; cases h
  | some p =>
    obtain ⟨d, x⟩ := p
    rw [hc] at h
    dsimp only at h
    split at h
    · rename_i hif
      obtain ⟨e1, e2⟩ := Prod.mk.inj (Option.some.inj h)
      subst e2
      exact ⟨d, (Who.cut_of hc).1, hif.1, hif.2.1, hif.2.2.1, hif.2.2.2, e1.symm⟩
    · cases h
theorem no59 {d : List UInt8} (h : ∀ b ∈ d, 48 ≤ b.toNat ∧ b.toNat ≤ 57) : (59 : UInt8) ∉ d := fun hm => by
  have := h 59 hm
  simp at this
theorem takeN_some {d r : List UInt8} {most : Int} (h1 : 1 ≤ d.length ∧ d.length ≤ 17) (h2 : ∀ b ∈ d, 48 ≤ b.toNat ∧ b.toNat ≤ 57) (h3 : (value 0 d : Int) ≤ most) (h4 : 1 < d.length → d.head? ≠ some 48) : takeN (d ++ 59 :: r) most = some (value 0 d, r) := by
  rw [takeN, Who.cut_some _ (no59 h2)]
  dsimp only
  rw [if_pos ⟨h1, h2, h3, h4⟩]
theorem takeN_bad {d r : List UInt8} {most : Int} (h2 : ∀ b ∈ d, 48 ≤ b.toNat ∧ b.toNat ≤ 57) (h : ¬ ((1 ≤ d.length ∧ d.length ≤ 17) ∧ (value 0 d : Int) ≤ most ∧ (1 < d.length → d.head? ≠ some 48))) : takeN (d ++ 59 :: r) most = none := by
  rw [takeN, Who.cut_some _ (no59 h2)]
  dsimp only
  rw [if_neg fun ⟨a, _, c, e⟩ => h ⟨a, c, e⟩]
theorem numS_none {l : List UInt8} {most : Int} (h : ∀ n r, takeN l most ≠ some (n, r)) : numS l most = (0, 0) := by
  rw [numS]
  cases ht : takeN l most with
  | none => rfl
  | some p => exact absurd ht (h p.1 p.2)
section
variable {l : List UInt8} {pos : Nat} {most : Int}
/-- Where the next byte is no end, the digits go on at least so far. -/
theorem on_past (h : Pre l pos) (hp : pos < l.length) (hb : l[pos] ≠ 59) {d r : List UInt8} (e : l = d ++ 59 :: r) : pos < d.length := by
  refine Nat.lt_of_not_le fun hle => ?_
  rcases Nat.lt_or_eq_of_le hle with hlt | heq
  · have h1 : (59 : UInt8) ∈ l.take pos := by
      rw [e, List.take_append]
      refine List.mem_append_right _ ?_
      obtain ⟨k, hk⟩ : ∃ k, pos - d.length = k + 1 := ⟨pos - d.length - 1, by omega⟩
      rw [hk, List.take_succ_cons]
      exact List.mem_cons_self ..
    have := h.2.2 59 h1
    simp at this
  · subst heq
    apply hb
    simp only [e]
    rw [List.getElem_append_right (Nat.le_refl _)]
    simp
theorem at_d {d r : List UInt8} (e : l = d ++ 59 :: r) (hp : pos < l.length) (hd : pos < d.length) : l[pos] = d[pos] := by
  simp only [e]
  rw [List.getElem_append_left hd]
theorem scan_end (h : Pre l l.length) : numS l most = (0, 0) := numS_none fun n r ht => by
  obtain ⟨d, e, -⟩ := takeN_split ht
  have h1 := h.2.2
  rw [List.take_length] at h1
  exact no59 h1 (by rw [e]; simp)
theorem scan_stop (h : Pre l pos) (hp : pos < l.length) (hb : l[pos] = 59) (h1 : 1 ≤ pos) (h3 : (value 0 (l.take pos) : Int) ≤ most) (h4 : 1 < pos → l.head? ≠ some 48) : numS l most = (value 0 (l.take pos), pos + 1) := by
  have e : l = l.take pos ++ 59 :: l.drop (pos + 1) := by
    conv => lhs; rw [← List.take_append_drop pos l]
    rw [List.drop_eq_getElem_cons hp, hb]
  have hl : (l.take pos).length = pos := by rw [List.length_take]; omega
  have ht : takeN l most = some (value 0 (l.take pos), l.drop (pos + 1)) := by
    conv => lhs; rw [e]
    refine takeN_some ⟨by omega, by have := h.2.1; omega⟩ h.2.2 h3 fun hh => ?_
    have h5 := h4 (by omega)
    intro h6
    apply h5
    rw [List.head?_take] at h6
    rwa [if_neg (by omega)] at h6
  rw [numS, ht]
  dsimp only
  rw [List.length_drop]
  congr 1
  omega
theorem scan_stop_bad (h : Pre l pos) (hp : pos < l.length) (hb : l[pos] = 59) (h5 : pos = 0 ∨ most < (value 0 (l.take pos) : Int) ∨ (1 < pos ∧ l.head? = some 48)) : numS l most = (0, 0) := by
  have e : l = l.take pos ++ 59 :: l.drop (pos + 1) := by
    conv => lhs; rw [← List.take_append_drop pos l]
    rw [List.drop_eq_getElem_cons hp, hb]
  have hl : (l.take pos).length = pos := by rw [List.length_take]; omega
  have ht : takeN l most = none := by
    conv => lhs; rw [e]
    refine takeN_bad h.2.2 fun ⟨a, b, c⟩ => ?_
    rcases h5 with h5 | h5 | ⟨h5, h6⟩
    · omega
    · omega
    · refine c (by omega) ?_
      rw [List.head?_take, if_neg (by omega)]
      exact h6
  rw [numS, ht]
theorem scan_byte (h : Pre l pos) (hp : pos < l.length) (hb : l[pos].toNat < 48 ∨ 57 < l[pos].toNat) (h0 : l[pos] ≠ 59 ∨ pos = 0) : numS l most = (0, 0) := by
  by_cases h59 : l[pos] = 59
  · exact scan_stop_bad h hp h59 (.inl (h0.resolve_left fun hn => hn h59))
  · refine numS_none fun n r ht => ?_
    obtain ⟨d, e, -, h2, -⟩ := takeN_split ht
    have hd := on_past h hp h59 e
    have h3 := h2 d[pos] (List.getElem_mem hd)
    rw [← at_d e hp hd] at h3
    omega
theorem value_head {m : List UInt8} (h : ∀ b ∈ m, 48 ≤ b.toNat ∧ b.toNat ≤ 57) (hne : m ≠ []) (h0 : value 0 m = 0) : m.head? = some 48 := by
  match m, hne with
  | a :: k, _ =>
    rw [Knot.value_cons] at h0
    have h4 := Knot.value_ge k (Knot.more 0 a)
    have h5 := h a (List.mem_cons_self ..)
    rw [Knot.more_eq] at h4
    have h6 : a.toNat = 48 := by rw [Knot.more_eq] at h0; omega
    have h7 : a = 48 := UInt8.toNat_inj.1 h6
    rw [h7]
    rfl
theorem scan_nought (h : Pre l pos) (hp : pos < l.length) (hb : l[pos] ≠ 59) (h1 : 1 ≤ pos) (h0 : value 0 (l.take pos) = 0) : numS l most = (0, 0) := numS_none fun n r ht => by
  obtain ⟨d, e, -, h2, -, h4, -⟩ := takeN_split ht
  have hd := on_past h hp hb e
  have hh := value_head h.2.2 (fun e => by have := congrArg List.length e; rw [List.length_take, List.length_nil] at this; omega) h0
  rw [List.head?_take, if_neg (by omega)] at hh
  refine h4 (by omega) ?_
  rw [e, List.head?_append] at hh
  match d, hd with
  | a :: k, _ => simpa using hh
theorem scan_long (h : Pre l pos) (hp : pos < l.length) (hb : l[pos] ≠ 59) (h1 : pos = 17) : numS l most = (0, 0) := numS_none fun n r ht => by
  obtain ⟨d, e, h17, -⟩ := takeN_split ht
  have hd := on_past h hp hb e
  omega
theorem scan_step (h : Pre l pos) (hp : pos < l.length) (hb : 48 ≤ l[pos].toNat ∧ l[pos].toNat ≤ 57) (h1 : pos ≠ 17) : Pre l (pos + 1) ∧ value 0 (l.take (pos + 1)) = value 0 (l.take pos) * 10 + (l[pos].toNat - 48) ∧ value 0 (l.take pos) < 10 ^ 16 := by
  refine ⟨⟨by omega, by have := h.2.1; omega, fun b hb' => ?_⟩, Knot.pre_step hp, ?_⟩
  · rw [List.take_succ_eq_append_getElem hp, List.mem_append, List.mem_singleton] at hb'
    rcases hb' with hb' | rfl
    · exact h.2.2 b hb'
    · exact hb
  · have h3 := Knot.pre_lt (l := l.take pos) h.2.2 (l.take pos).length (Nat.le_refl _)
    rw [List.take_length] at h3
    have h2 := h.2.1
    exact Nat.lt_of_lt_of_le h3 (Nat.pow_le_pow_right (by decide) (by rw [List.length_take]; omega))
theorem numS_top (l : List UInt8) (most : Int) : numS l most = if (numS l (9223372036854775807)).2 = 0 ∨ most < ((numS l 9223372036854775807).1 : Int) then (0, 0) else numS l 9223372036854775807 := by
  cases ht : takeN l 9223372036854775807 with
  | none =>
    have e1 : numS l 9223372036854775807 = (0, 0) := by rw [numS, ht]
    rw [e1, if_pos (.inl rfl)]
    refine numS_none fun n r h => ?_
    obtain ⟨d, e, h1, h2, h3, h4, h5⟩ := takeN_split h
    have h6 : takeN l 9223372036854775807 = some (value 0 d, r) := by
      rw [e]
      refine takeN_some h1 h2 ?_ h4
      have h7 := (takeN_of h).2.2
      rw [h5] at h7
      omega
    rw [ht] at h6
    cases h6
  | some p =>
    obtain ⟨n, r⟩ := p
    obtain ⟨d, e, h1, h2, h3, h4, h5⟩ := takeN_split ht
    have e1 : numS l 9223372036854775807 = (n, l.length - r.length) := by rw [numS, ht]
    have hr : l.length - r.length = d.length + 1 := by rw [e, List.length_append, List.length_cons]; omega
    rw [e1, hr]
    dsimp only
    by_cases hm : most < (n : Int)
    · rw [if_pos (.inr hm)]
      have : takeN l most = none := by
        rw [e]
        exact takeN_bad h2 fun ⟨_, b, _⟩ => by rw [← h5] at b; omega
      rw [numS, this]
    · rw [if_neg (by omega)]
      have : takeN l most = some (n, r) := by
        rw [e, h5]
        exact takeN_some h1 h2 (by rw [← h5]; omega) h4
      rw [numS, this]
      dsimp only
      rw [hr]
end
end Ck
end Go.Proofs.YtopncohhagebbaaDoor

namespace Go.Proofs.YtopncohhagebbaaDoor
open Go.RowKit
namespace Ck
open Knot (number textB markB takeN takeT takeM)
open Tr (Nd none0)
open Gr (Al Rl Ty)
open Who (bs bs_list bs_size bs_self)

/-- What is left, and whether it has failed. -/
abbrev St : Type := List UInt8 × Bool
def bad : St := ([], true)
def numP (most : Int) (s : St) : Nat × St := match takeN s.1 most with
  | none => (0, bad)
  | some (n, r) => (n, (r, s.2))
def textP (most : Int) (s : St) : ByteArray × St := match takeT s.1 most with
  | none => (none0, bad)
  | some (t, r) => (bs t, (r, s.2))
def markP (s : St) : Bool × St := match takeM s.1 with
  | none => (false, bad)
  | some (m, r) => (m, (r, s.2))
def loopP {α : Type} (p : St → α × St) : Nat → St → List α → List α × St
  | 0, s, l => (l, s)
  | n + 1, s, l => if s.1 = [] then ([], (p s).2) else loopP p n (p s).2 (l ++ [(p s).1])
def listP {α : Type} (most : Int) (p : St → α × St) (s : St) : List α × St := loopP p (numP most s).1 (numP most s).2 []
/-- How many kids a node may have so deep. -/
def kidsP (d : Nat) : Int := if d = 0 then 0 else 24
def nodeP : Nat → St → Nd × St
  | 0, s => (.mk 0 none0 none0 [], s)
  | d + 1, s =>
    let k := numP 6 s
    let a := textP 16 k.2
    let b := textP 16 a.2
    let l := listP (kidsP d) (nodeP d) b.2
    (.mk k.1 a.1 b.1 l.1, l.2)
def allowP (s : St) : Al × St :=
  let a := textP 16 s
  let b := textP 16 a.2
  let m := markP b.2
  (⟨a.1, b.1, m.1⟩, m.2)
/-- The greatest number there is. -/
def top : Int := 9223372036854775807
def relP (s : St) : Rl × St :=
  let a := textP 16 s
  let l := listP top allowP a.2
  let n := nodeP 8 l.2
  (⟨a.1, l.1, n.1⟩, n.2)
def typeP (s : St) : Ty × St :=
  let a := textP 16 s
  let l := listP top relP a.2
  (⟨a.1, l.1⟩, l.2)
def confP (s : St) : List Ty × St := listP top typeP s

/-- What comes of it is what is taken, or it has failed. -/
structure Lifts {α : Type} (p : St → α × St) (t : Tk α) : Prop where
  yes : ∀ s x r, t s.1 = some (x, r) → p s = (x, (r, s.2))
  no : ∀ s, t s.1 = none → (p s).2 = bad
  nil : t [] = none
section
variable {α : Type} {p : St → α × St} {t : Tk α}
theorem Lifts.stays (h : Lifts p t) : (p bad).2 = bad := h.no bad h.nil
theorem loop_lifts (h : Lifts p t) : ∀ (n : Nat) (s : St) (l : List α), (∀ m r, repsT t n s.1 = some (m, r) → loopP p n s l = (l ++ m, (r, s.2))) ∧ (repsT t n s.1 = none → (loopP p n s l).2 = bad)
  | 0, s, l => by
    refine ⟨fun m r e => ?_, fun e => ?_⟩
    · rw [repsT] at e
      obtain ⟨rfl, rfl⟩ := Prod.mk.inj (Option.some.inj e)
      rw [loopP, List.append_nil]
    · rw [repsT] at e
      cases e
  | n + 1, s, l => by
    rw [repsT, loopP]
    cases ht : t s.1 with
    | none =>
      refine ⟨fun m r e => (by cases e), fun _ => ?_⟩
      have hb := h.no s ht
      split
      · exact hb
      · rw [hb]
        exact loop_none h n _
    | some q =>
      obtain ⟨x, r⟩ := q
      have hp := h.yes s x r ht
      have hne : ¬ s.1 = [] := fun e => by rw [e, h.nil] at ht; cases ht
      rw [if_neg hne, hp]
      dsimp only
      obtain ⟨h1, h2⟩ := loop_lifts h n (r, s.2) (l ++ [x])
      cases hr : repsT t n r with
      | none => exact ⟨fun m r e => by (dsimp only at e; cases e), fun _ => h2 hr⟩
      | some q2 =>
        obtain ⟨xs, r2⟩ := q2
        refine ⟨fun m r3 e => ?_, fun e => by (dsimp only at e; cases e)⟩
        dsimp only at e
        obtain ⟨rfl, rfl⟩ := Prod.mk.inj (Option.some.inj e)
        rw [h1 _ _ hr, List.append_assoc]
        rfl
where
  loop_none {α : Type} {p : St → α × St} {t : Tk α} (h : Lifts p t) : ∀ (n : Nat) (l : List α), (loopP p n bad l).2 = bad
    | 0, l => rfl
    | n + 1, l => by
      rw [loopP, if_pos (show bad.1 = [] from rfl)]
      exact h.stays
theorem num_lifts (most : Int) : Lifts (numP most) (fun s => takeN s most) :=
  ⟨fun s x r e => by rw [numP, e], fun s e => by rw [numP, e], rfl⟩
theorem list_lifts (h : Lifts p t) (most : Int) : Lifts (listP most p) (listT most t) := by
  refine ⟨fun s x r e => ?_, fun s e => ?_, rfl⟩
  · rw [listT] at e
    rw [listP]
    cases hn : takeN s.1 most with
    | none => rw [hn] at e; cases e
    | some q =>
      obtain ⟨n, r1⟩ := q
      rw [hn] at e
      rw [(num_lifts most).yes s n r1 hn]
      have := (loop_lifts h n (r1, s.2) []).1 x r e
      rw [this, List.nil_append]
  · rw [listT] at e
    rw [listP]
    cases hn : takeN s.1 most with
    | none =>
      rw [numP, hn]
      rfl
    | some q =>
      obtain ⟨n, r1⟩ := q
      rw [hn] at e
      rw [(num_lifts most).yes s n r1 hn]
      exact (loop_lifts h n (r1, s.2) []).2 e
end
theorem textP_some {most : Int} {s : St} {t r : List UInt8} (h : takeT s.1 most = some (t, r)) : textP most s = (bs t, (r, s.2)) := by rw [textP, h]
theorem textP_none {most : Int} {s : St} (h : takeT s.1 most = none) : textP most s = (none0, bad) := by rw [textP, h]
theorem textP_bad (most : Int) : textP most bad = (none0, bad) := rfl
theorem markP_some {s : St} {m : Bool} {r : List UInt8} (h : takeM s.1 = some (m, r)) : markP s = (m, (r, s.2)) := by rw [markP, h]
theorem markP_none {s : St} (h : takeM s.1 = none) : markP s = (false, bad) := by rw [markP, h]
theorem markP_bad : markP bad = (false, bad) := rfl
theorem numP_bad (most : Int) : numP most bad = (0, bad) := rfl
theorem allow_lifts : Lifts allowP allowT := by
  refine ⟨fun s x r e => ?_, fun s e => ?_, rfl⟩
  · rw [allowT] at e
    rw [allowP]
    cases h1 : takeT s.1 16 with
    | none => rw [h1] at e; cases e
    | some q =>
      obtain ⟨a, r1⟩ := q
      rw [h1] at e
      rw [textP_some h1]
      dsimp only at e ⊢
      cases h2 : takeT r1 16 with
      | none => rw [h2] at e; cases e
      | some q =>
        obtain ⟨b, r2⟩ := q
        rw [h2] at e
        rw [textP_some (s := (r1, s.2)) h2]
        dsimp only at e ⊢
        cases h3 : takeM r2 with
        | none => rw [h3] at e; cases e
        | some q =>
          obtain ⟨m, r3⟩ := q
          rw [h3] at e
          rw [markP_some (s := (r2, s.2)) h3]
          dsimp only at e ⊢
          obtain ⟨rfl, rfl⟩ := Prod.mk.inj (Option.some.inj e)
          rfl
  · rw [allowT] at e
    rw [allowP]
    cases h1 : takeT s.1 16 with
    | none => rw [textP_none h1]; rfl
    | some q =>
      obtain ⟨a, r1⟩ := q
      rw [h1] at e
      rw [textP_some h1]
      dsimp only at e ⊢
      cases h2 : takeT r1 16 with
      | none => rw [textP_none (s := (r1, s.2)) h2]; rfl
      | some q =>
        obtain ⟨b, r2⟩ := q
        rw [h2] at e
        rw [textP_some (s := (r1, s.2)) h2]
        dsimp only at e ⊢
        cases h3 : takeM r2 with
        | none => rw [markP_none (s := (r2, s.2)) h3]
        | some q =>
          rw [h3] at e
          cases e
theorem node_zero (s : St) : (∀ x r, listT (kidsP 0) (nodeT kidsP 0) s.1 = some (x, r) → listP (kidsP 0) (nodeP 0) s = (x, (r, s.2))) ∧ (listT (kidsP 0) (nodeT kidsP 0) s.1 = none → (listP (kidsP 0) (nodeP 0) s).2 = bad) := by
  rw [listT, listP]
  cases hn : takeN s.1 (kidsP 0) with
  | none =>
    refine ⟨fun x r e => (by cases e), fun _ => ?_⟩
    rw [show numP (kidsP 0) s = (0, bad) by rw [numP, hn]]
    rfl
  | some q =>
    obtain ⟨n, r1⟩ := q
    rw [(num_lifts _).yes s n r1 hn]
    have h0 : n = 0 := by
      have := (takeN_of hn).2.1
      rw [kidsP, if_pos rfl] at this
      omega
    subst h0
    refine ⟨fun x r e => ?_, fun e => (by cases e)⟩
    dsimp only at e
    rw [repsT] at e
    obtain ⟨rfl, rfl⟩ := Prod.mk.inj (Option.some.inj e)
    rfl
theorem node_step (d : Nat) (hs : ∀ s x r, listT (kidsP d) (nodeT kidsP d) s.1 = some (x, r) → listP (kidsP d) (nodeP d) s = (x, (r, s.2))) (hn : ∀ s : St, listT (kidsP d) (nodeT kidsP d) s.1 = none → (listP (kidsP d) (nodeP d) s).2 = bad) : Lifts (nodeP (d + 1)) (nodeT kidsP (d + 1)) := by
  have hb : (listP (kidsP d) (nodeP d) bad).2 = bad := hn bad rfl
  refine ⟨fun s x r e => ?_, fun s e => ?_, rfl⟩
  · rw [nodeT] at e
    rw [nodeP]
    cases h0 : takeN s.1 6 with
    | none => rw [h0] at e; cases e
    | some q =>
      obtain ⟨k, r0⟩ := q
      rw [h0] at e
      rw [(num_lifts 6).yes s k r0 h0]
      dsimp only at e ⊢
      cases h1 : takeT r0 16 with
      | none => rw [h1] at e; cases e
      | some q =>
        obtain ⟨a, r1⟩ := q
        rw [h1] at e
        rw [textP_some (s := (r0, s.2)) h1]
        dsimp only at e ⊢
        cases h2 : takeT r1 16 with
        | none => rw [h2] at e; cases e
        | some q =>
          obtain ⟨b, r2⟩ := q
          rw [h2] at e
          rw [textP_some (s := (r1, s.2)) h2]
          dsimp only at e ⊢
          cases h3 : listT (kidsP d) (nodeT kidsP d) r2 with
          | none => rw [h3] at e; cases e
          | some q =>
            obtain ⟨l, r3⟩ := q
            rw [h3] at e
            rw [hs (r2, s.2) l r3 h3]
            dsimp only at e ⊢
            obtain ⟨rfl, rfl⟩ := Prod.mk.inj (Option.some.inj e)
            rfl
  · rw [nodeT] at e
    rw [nodeP]
    cases h0 : takeN s.1 6 with
    | none =>
      rw [show numP 6 s = (0, bad) by rw [numP, h0]]
      exact hb
    | some q =>
      obtain ⟨k, r0⟩ := q
      rw [h0] at e
      rw [(num_lifts 6).yes s k r0 h0]
      dsimp only at e ⊢
      cases h1 : takeT r0 16 with
      | none =>
        rw [textP_none (s := (r0, s.2)) h1]
        exact hb
      | some q =>
        obtain ⟨a, r1⟩ := q
        rw [h1] at e
        rw [textP_some (s := (r0, s.2)) h1]
        dsimp only at e ⊢
        cases h2 : takeT r1 16 with
        | none =>
          rw [textP_none (s := (r1, s.2)) h2]
          exact hb
        | some q =>
          obtain ⟨b, r2⟩ := q
          rw [h2] at e
          rw [textP_some (s := (r1, s.2)) h2]
          dsimp only at e ⊢
          cases h3 : listT (kidsP d) (nodeT kidsP d) r2 with
          | none => exact hn (r2, s.2) h3
          | some q =>
            rw [h3] at e
            cases e
theorem node_lifts : ∀ d, Lifts (nodeP (d + 1)) (nodeT kidsP (d + 1))
  | 0 => node_step 0 (fun s x r e => (node_zero s).1 x r e) fun s e => (node_zero s).2 e
  | d + 1 => node_step (d + 1) (fun s x r e => (list_lifts (node_lifts d) _).yes s x r e) fun s e => (list_lifts (node_lifts d) _).no s e
theorem rel_lifts : Lifts relP (relT top kidsP) := by
  have hl := list_lifts allow_lifts top
  have hn := node_lifts 7
  refine ⟨fun s x r e => ?_, fun s e => ?_, rfl⟩
  · rw [relT] at e
    rw [relP]
    cases h1 : takeT s.1 16 with
    | none => rw [h1] at e; cases e
    | some q =>
      obtain ⟨a, r1⟩ := q
      rw [h1] at e
      rw [textP_some h1]
      dsimp only at e ⊢
      cases h2 : listT top allowT r1 with
      | none => rw [h2] at e; cases e
      | some q =>
        obtain ⟨l, r2⟩ := q
        rw [h2] at e
        rw [hl.yes (r1, s.2) l r2 h2]
        dsimp only at e ⊢
        cases h3 : nodeT kidsP 8 r2 with
        | none => rw [h3] at e; cases e
        | some q =>
          obtain ⟨n, r3⟩ := q
          rw [h3] at e
          rw [hn.yes (r2, s.2) n r3 h3]
          dsimp only at e ⊢
          obtain ⟨rfl, rfl⟩ := Prod.mk.inj (Option.some.inj e)
          rfl
  · rw [relT] at e
    rw [relP]
    cases h1 : takeT s.1 16 with
    | none =>
      rw [textP_none h1]
      dsimp only
      rw [hl.stays]
      exact hn.stays
    | some q =>
      obtain ⟨a, r1⟩ := q
      rw [h1] at e
      rw [textP_some h1]
      dsimp only at e ⊢
      cases h2 : listT top allowT r1 with
      | none =>
        rw [hl.no (r1, s.2) h2]
        exact hn.stays
      | some q =>
        obtain ⟨l, r2⟩ := q
        rw [h2] at e
        rw [hl.yes (r1, s.2) l r2 h2]
        dsimp only at e ⊢
        cases h3 : nodeT kidsP 8 r2 with
        | none => exact hn.no (r2, s.2) h3
        | some q => rw [h3] at e; cases e
theorem type_lifts : Lifts typeP (typeT top kidsP) := by
  have hl := list_lifts rel_lifts top
  refine ⟨fun s x r e => ?_, fun s e => ?_, rfl⟩
  · rw [typeT] at e
    rw [typeP]
    cases h1 : takeT s.1 16 with
    | none => rw [h1] at e; cases e
    | some q =>
      obtain ⟨a, r1⟩ := q
      rw [h1] at e
      rw [textP_some h1]
      dsimp only at e ⊢
      cases h2 : listT top (relT top kidsP) r1 with
      | none => rw [h2] at e; cases e
      | some q =>
        obtain ⟨l, r2⟩ := q
        rw [h2] at e
        rw [hl.yes (r1, s.2) l r2 h2]
        dsimp only at e ⊢
        obtain ⟨rfl, rfl⟩ := Prod.mk.inj (Option.some.inj e)
        rfl
  · rw [typeT] at e
    rw [typeP]
    cases h1 : takeT s.1 16 with
    | none =>
      rw [textP_none h1]
      exact hl.stays
    | some q =>
      obtain ⟨a, r1⟩ := q
      rw [h1] at e
      rw [textP_some h1]
      dsimp only at e ⊢
      cases h2 : listT top (relT top kidsP) r1 with
      | none => exact hl.no (r1, s.2) h2
      | some q => rw [h2] at e; cases e
theorem conf_lifts : Lifts confP (confT top kidsP) := list_lifts type_lifts top

/-- With each thing there is less left. -/
def Short {α : Type} (p : St → α × St) : Prop := ∀ s, (p s).2.1.length + 1 ≤ s.1.length ∨ (s.1 = [] ∧ (p s).2.1 = [])
theorem short_of {α : Type} {p : St → α × St} {t : Tk α} {f : α → List UInt8} (h : Lifts p t) (hs : Sound t f) (hf : ∀ a, 1 ≤ (f a).length) : Short p := fun s => by
  cases ht : t s.1 with
  | none =>
    rw [h.no s ht]
    cases hs1 : s.1 with
    | nil => exact .inr ⟨rfl, rfl⟩
    | cons a l => exact .inl (by simp [bad])
  | some q =>
    obtain ⟨x, r⟩ := q
    rw [h.yes s x r ht]
    left
    rw [hs _ _ _ ht, List.length_append]
    have := hf x
    simp only
    omega
theorem allow_short : Short allowP := short_of allow_lifts allow_sound allowB_pos
theorem node_short (d : Nat) : Short (nodeP (d + 1)) := short_of (node_lifts d) (node_sound _ _) nodeB_pos
theorem rel_short : Short relP := short_of rel_lifts (rel_sound _ _) relB_pos
theorem type_short : Short typeP := short_of type_lifts (type_sound _ _) typeB_pos

end Ck
end Go.Proofs.YtopncohhagebbaaDoor
