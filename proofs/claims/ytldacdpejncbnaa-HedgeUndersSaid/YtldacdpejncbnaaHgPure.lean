/-
  Plain mathematics of layer 15 (hedge): the order of texts; sorted lists of keys with numbers; trees of them, with the blocks that they lie in, and what is done to them.
-/
import Derived.Lib.Bytealg
import Derived.RowKit
namespace Go.Proofs.Ytldacdpejncbnaa
open Go.RowKit
namespace Hg

/-! ### the order of texts -/
def cmpL (a b : List UInt8) : Int := Lib.compareBytes a b
theorem cmpL_cons (x y : UInt8) (a b : List UInt8) : cmpL (x :: a) (y :: b) = if x.toNat < y.toNat then -1 else if y.toNat < x.toNat then 1 else cmpL a b := by
  have h1 : (x < y) = (x.toNat < y.toNat) := propext UInt8.lt_iff_toNat_lt
  have h2 : (y < x) = (y.toNat < x.toNat) := propext UInt8.lt_iff_toNat_lt
  simp only [cmpL, Lib.compareBytes, h1, h2]
theorem cmpL_self : ∀ a : List UInt8, cmpL a a = 0
  | [] => rfl
  | x :: a => by rw [cmpL_cons, if_neg (by omega), if_neg (by omega)]; exact cmpL_self a
theorem cmpL_eq : ∀ {a b : List UInt8}, cmpL a b = 0 → a = b
  | [], [], _ => rfl
  | [], _ :: _, h => by simp [cmpL, Lib.compareBytes] at h
  | _ :: _, [], h => by simp [cmpL, Lib.compareBytes] at h
  | x :: a, y :: b, h => by
    rw [cmpL_cons] at h
    by_cases h1 : x.toNat < y.toNat
    · rw [if_pos h1] at h; omega
    · by_cases h2 : y.toNat < x.toNat
      · rw [if_neg h1, if_pos h2] at h; omega
      · rw [if_neg h1, if_neg h2] at h
        rw [cmpL_eq h, UInt8.toNat_inj.1 (show x.toNat = y.toNat by omega)]
theorem cmpL_anti : ∀ a b : List UInt8, cmpL b a = - cmpL a b
  | [], [] => rfl
  | [], _ :: _ => rfl
  | _ :: _, [] => rfl
  | x :: a, y :: b => by
    have ih := cmpL_anti a b
    rw [cmpL_cons, cmpL_cons]
    repeat' split
    all_goals omega
theorem cmpL_trans : ∀ {a b c : List UInt8}, cmpL a b ≤ 0 → cmpL b c ≤ 0 → cmpL a c ≤ 0
  | [], _, [], _, _ => by decide
  | [], _, _ :: _, _, _ => by simp [cmpL, Lib.compareBytes]
  | _ :: _, [], _, h, _ => by simp [cmpL, Lib.compareBytes] at h
  | _ :: _, _ :: _, [], _, h => by simp [cmpL, Lib.compareBytes] at h
  | x :: a, y :: b, z :: c, h1, h2 => by
    rw [cmpL_cons] at h1 h2 ⊢
    have ih := @cmpL_trans a b c
    by_cases xy : x.toNat < y.toNat
    · by_cases yz : y.toNat < z.toNat
      · rw [if_pos (by omega)]; omega
      · rw [if_neg yz] at h2
        by_cases zy : z.toNat < y.toNat
        · rw [if_pos zy] at h2; omega
        · rw [if_pos (by omega)]; omega
    · rw [if_neg xy] at h1
      by_cases yx : y.toNat < x.toNat
      · rw [if_pos yx] at h1; omega
      · rw [if_neg yx] at h1
        by_cases yz : y.toNat < z.toNat
        · rw [if_pos (by omega)]; omega
        · rw [if_neg yz] at h2
          by_cases zy : z.toNat < y.toNat
          · rw [if_pos zy] at h2; omega
          · rw [if_neg zy] at h2
            rw [if_neg (by omega), if_neg (by omega)]
            exact ih h1 h2
/-- What begins with a prefix stands side by side. -/
theorem cmpL_mid : ∀ {p a b : List UInt8}, cmpL p a ≤ 0 → cmpL a b ≤ 0 → p <+: b → p <+: a
  | [], a, _, _, _, _ => List.nil_prefix
  | x :: p, [], _, h, _, _ => by simp [cmpL, Lib.compareBytes] at h
  | x :: p, y :: a, [], _, h, _ => by simp [cmpL, Lib.compareBytes] at h
  | x :: p, y :: a, z :: b, h1, h2, h3 => by
    obtain ⟨rfl, h4⟩ := List.cons_prefix_cons.1 h3
    rw [cmpL_cons] at h1 h2
    have e : y.toNat = x.toNat := by
      by_cases xy : x.toNat < y.toNat
      · rw [if_neg (by omega), if_pos xy] at h2; omega
      · by_cases yx : y.toNat < x.toNat
        · rw [if_neg xy, if_pos yx] at h1; omega
        · omega
    obtain rfl : y = x := UInt8.toNat_inj.1 e
    rw [if_neg (by omega), if_neg (by omega)] at h1 h2
    exact List.cons_prefix_cons.2 ⟨rfl, cmpL_mid h1 h2 h4⟩
theorem cmpL_prefix : ∀ {p a : List UInt8}, p <+: a → cmpL p a ≤ 0
  | [], [], _ => by decide
  | [], _ :: _, _ => by simp [cmpL, Lib.compareBytes]
  | _ :: _, [], h => by simp at h
  | x :: p, y :: a, h => by
    obtain ⟨rfl, h'⟩ := List.cons_prefix_cons.1 h
    rw [cmpL_cons, if_neg (by omega), if_neg (by omega)]
    exact cmpL_prefix h'

def cmp (a b : ByteArray) : Int := Lib.compareBytes a.data.toList b.data.toList
theorem cmp_L (a b : ByteArray) : cmp a b = cmpL a.data.toList b.data.toList := rfl
theorem cmp_self (a : ByteArray) : cmp a a = 0 := cmpL_self _
theorem cmp_eq {a b : ByteArray} (h : cmp a b = 0) : a = b := by
  have := cmpL_eq h
  cases a; cases b
  simpa [Array.toList_inj] using this
theorem cmp_zero {a b : ByteArray} : cmp a b = 0 ↔ a = b := ⟨cmp_eq, fun h => by rw [h]; exact cmp_self b⟩
theorem cmp_anti (a b : ByteArray) : cmp b a = - cmp a b := cmpL_anti _ _
theorem cmp_trans {a b c : ByteArray} (h1 : cmp a b ≤ 0) (h2 : cmp b c ≤ 0) : cmp a c ≤ 0 := cmpL_trans h1 h2
theorem lt_le {a b c : ByteArray} (h1 : cmp a b < 0) (h2 : cmp b c ≤ 0) : cmp a c < 0 := by
  have h := cmp_trans (a := a) (b := b) (by omega) h2
  by_cases e : cmp a c = 0
  · rw [cmp_eq e] at h1
    have := cmp_anti c b
    omega
  · omega
theorem le_lt {a b c : ByteArray} (h1 : cmp a b ≤ 0) (h2 : cmp b c < 0) : cmp a c < 0 := by
  have h := cmp_trans (b := b) (c := c) h1 (by omega)
  by_cases e : cmp a c = 0
  · rw [← cmp_eq e] at h2
    have := cmp_anti b a
    omega
  · omega
theorem lt_lt {a b c : ByteArray} (h1 : cmp a b < 0) (h2 : cmp b c < 0) : cmp a c < 0 := lt_le h1 (by omega)

/-! ### lists -/
abbrev Ent := ByteArray × Int
/-- All keys rise. -/
def Rises (L : List Ent) : Prop := L.Pairwise fun e f => cmp e.1 f.1 < 0
def below (L : List Ent) (k : ByteArray) : List Ent := L.filter fun e => decide (cmp e.1 k < 0)
def above (L : List Ent) (k : ByteArray) : List Ent := L.filter fun e => decide (0 < cmp e.1 k)
/-- A key's number. -/
def get : List Ent → ByteArray → Option Int
  | [], _ => none
  | e :: L, k => if e.1 = k then some e.2 else get L k
def put (L : List Ent) (k : ByteArray) (a : Int) : List Ent := below L k ++ (k, a) :: above L k
def drop (L : List Ent) (k : ByteArray) : List Ent := below L k ++ above L k
def rank (L : List Ent) (k : ByteArray) : Nat := (below L k).length
/-- From a key on. -/
def upon (L : List Ent) (k : ByteArray) : List Ent := L.filter fun e => decide (0 ≤ cmp e.1 k)

theorem below_append (L M : List Ent) (k : ByteArray) : below (L ++ M) k = below L k ++ below M k := List.filter_append ..
theorem above_append (L M : List Ent) (k : ByteArray) : above (L ++ M) k = above L k ++ above M k := List.filter_append ..
theorem upon_append (L M : List Ent) (k : ByteArray) : upon (L ++ M) k = upon L k ++ upon M k := List.filter_append ..
theorem below_all {L : List Ent} {k : ByteArray} (h : ∀ e ∈ L, cmp e.1 k < 0) : below L k = L ∧ above L k = [] ∧ upon L k = [] := by
  refine ⟨List.filter_eq_self.2 fun e he => by simpa using h e he, List.filter_eq_nil_iff.2 fun e he => ?_, List.filter_eq_nil_iff.2 fun e he => ?_⟩ <;>
    (have := h e he; simp; omega)
theorem above_all {L : List Ent} {k : ByteArray} (h : ∀ e ∈ L, cmp k e.1 < 0) : below L k = [] ∧ above L k = L ∧ upon L k = L := by
  refine ⟨List.filter_eq_nil_iff.2 fun e he => ?_, List.filter_eq_self.2 fun e he => ?_, List.filter_eq_self.2 fun e he => ?_⟩ <;>
    (have := h e he; rw [cmp_anti] at this; simp; omega)
theorem one_below {e : Ent} {k : ByteArray} (h : cmp e.1 k < 0) : below [e] k = [e] ∧ above [e] k = [] ∧ upon [e] k = [] := below_all fun f hf => by rw [List.mem_singleton.1 hf]; exact h
theorem one_above {e : Ent} {k : ByteArray} (h : cmp k e.1 < 0) : below [e] k = [] ∧ above [e] k = [e] ∧ upon [e] k = [e] := above_all fun f hf => by rw [List.mem_singleton.1 hf]; exact h
theorem one_at {e : Ent} {k : ByteArray} (h : e.1 = k) : below [e] k = [] ∧ above [e] k = [] ∧ upon [e] k = [e] := by
  have := cmp_zero.2 h
  simp [below, above, upon, this]
theorem get_append (L M : List Ent) (k : ByteArray) : get (L ++ M) k = (get L k).or (get M k) := by
  induction L with
  | nil => simp [get]
  | cons e L ih => simp only [List.cons_append, get]; split <;> simp [ih]
theorem get_none {L : List Ent} {k : ByteArray} (h : ∀ e ∈ L, e.1 ≠ k) : get L k = none := by
  induction L with
  | nil => rfl
  | cons e L ih => rw [get, if_neg (h e List.mem_cons_self)]; exact ih fun f hf => h f (List.mem_cons_of_mem _ hf)
theorem get_mem {L : List Ent} {k : ByteArray} {a : Int} (h : get L k = some a) : (k, a) ∈ L := by
  induction L with
  | nil => cases h
  | cons e L ih =>
    rw [get] at h
    by_cases c : e.1 = k
    · rw [if_pos c] at h
      have : (k, a) = e := by rw [← c, ← Option.some.inj h]
      rw [this]; exact List.mem_cons_self
    · rw [if_neg c] at h
      exact List.mem_cons_of_mem _ (ih h)
theorem get_some {L : List Ent} (hr : Rises L) {k : ByteArray} {a : Int} (h : (k, a) ∈ L) : get L k = some a := by
  induction L with
  | nil => cases h
  | cons e L ih =>
    rw [Rises, List.pairwise_cons] at hr
    rw [get]
    rcases List.mem_cons.1 h with rfl | h
    · rw [if_pos rfl]
    · rw [if_neg fun c => ?_]
      · exact ih hr.2 h
      · have := hr.1 _ h
        rw [c] at this
        have h0 := cmp_self k
        simp only at this; omega
theorem Rises.sub {L M : List Ent} (h : Rises L) (hs : M.Sublist L) : Rises M := h.sublist hs
theorem Rises.left {L M : List Ent} {e : Ent} (h : Rises (L ++ e :: M)) : ∀ f ∈ L, cmp f.1 e.1 < 0 := fun f hf => (List.pairwise_append.1 h).2.2 f hf e List.mem_cons_self
theorem Rises.right {L M : List Ent} {e : Ent} (h : Rises (L ++ e :: M)) : ∀ f ∈ M, cmp e.1 f.1 < 0 := (List.pairwise_cons.1 (List.pairwise_append.1 h).2.1).1
theorem Rises.fst {L M : List Ent} (h : Rises (L ++ M)) : Rises L := (List.pairwise_append.1 h).1
theorem Rises.snd {L M : List Ent} {e : Ent} (h : Rises (L ++ e :: M)) : Rises M := (List.pairwise_cons.1 (List.pairwise_append.1 h).2.1).2
theorem mid_at {L M : List Ent} {e : Ent} {k : ByteArray} (h : Rises (L ++ e :: M)) (he : e.1 = k) : below (L ++ e :: M) k = L ∧ above (L ++ e :: M) k = M ∧ upon (L ++ e :: M) k = e :: M := by
  have h1 := below_all (k := k) fun f hf => by rw [← he]; exact h.left f hf
  have h2 := above_all (k := k) fun f hf => by rw [← he]; exact h.right f hf
  have h3 := one_at he
  rw [List.append_cons, below_append, above_append, upon_append, below_append, above_append, upon_append, h1.1, h1.2.1, h1.2.2, h2.1, h2.2.1, h2.2.2, h3.1, h3.2.1, h3.2.2]
  simp
/-- Where the key is ahead of the one in the middle. -/
theorem mid_left {L M : List Ent} {e : Ent} {k : ByteArray} (h : Rises (L ++ e :: M)) (he : cmp k e.1 < 0) : below (L ++ e :: M) k = below L k ∧ above (L ++ e :: M) k = above L k ++ e :: M ∧ upon (L ++ e :: M) k = upon L k ++ e :: M := by
  have h2 := above_all (k := k) (L := e :: M) fun f hf => by
    rcases List.mem_cons.1 hf with rfl | hf
    · exact he
    · exact lt_lt he (h.right f hf)
  rw [below_append, above_append, upon_append, h2.1, h2.2.1, h2.2.2]
  simp
theorem mid_right {L M : List Ent} {e : Ent} {k : ByteArray} (h : Rises (L ++ e :: M)) (he : cmp e.1 k < 0) : below (L ++ e :: M) k = L ++ e :: below M k ∧ above (L ++ e :: M) k = above M k ∧ upon (L ++ e :: M) k = upon M k := by
  have h1 := below_all (k := k) (L := L ++ [e]) fun f hf => by
    rcases List.mem_append.1 hf with hf | hf
    · exact lt_lt (h.left f hf) he
    · rw [List.mem_singleton.1 hf]; exact he
  rw [List.append_cons, below_append, above_append, upon_append, h1.1, h1.2.1, h1.2.2]
  simp
theorem get_left {L M : List Ent} {e : Ent} {k : ByteArray} (h : Rises (L ++ e :: M)) (he : cmp k e.1 < 0) : get (L ++ e :: M) k = get L k := by
  rw [get_append, get_none (L := e :: M), Option.or_none]
  intro f hf c
  have := cmp_self k
  rcases List.mem_cons.1 hf with rfl | hf
  · rw [c] at he; omega
  · have h2 := lt_lt he (h.right f hf)
    rw [c] at h2; omega
theorem get_right {L M : List Ent} {e : Ent} {k : ByteArray} (h : Rises (L ++ e :: M)) (he : cmp e.1 k < 0) : get (L ++ e :: M) k = get M k := by
  have hk := cmp_self k
  rw [get_append, get_none (L := L), Option.none_or, get, if_neg]
  · intro c; rw [c] at he; omega
  · intro f hf c
    have h2 := lt_lt (h.left f hf) he
    rw [c] at h2; omega
theorem get_at {L M : List Ent} {e : Ent} {k : ByteArray} (h : Rises (L ++ e :: M)) (he : e.1 = k) : get (L ++ e :: M) k = some e.2 := by
  rw [get_append, get_none (L := L), Option.none_or, get, if_pos he]
  intro f hf c
  have h2 := h.left f hf
  rw [c, ← he] at h2
  have := cmp_self e.1
  omega
theorem rises_below (L : List Ent) (k : ByteArray) : ∀ e ∈ below L k, cmp e.1 k < 0 := fun e he => by simpa using (List.mem_filter.1 he).2
theorem rises_above (L : List Ent) (k : ByteArray) : ∀ e ∈ above L k, cmp k e.1 < 0 := fun e he => by
  have := (List.mem_filter.1 he).2
  rw [cmp_anti]; simp at this; omega
theorem Rises.put {L : List Ent} (h : Rises L) (k : ByteArray) (a : Int) : Rises (put L k a) := by
  refine List.pairwise_append.2 ⟨h.sub (List.filter_sublist ..), List.pairwise_cons.2 ⟨rises_above L k, h.sub (List.filter_sublist ..)⟩, fun e he f hf => ?_⟩
  rcases List.mem_cons.1 hf with rfl | hf
  · exact rises_below L k e he
  · exact lt_lt (rises_below L k e he) (rises_above L k f hf)
theorem Rises.drop {L : List Ent} (h : Rises L) (k : ByteArray) : Rises (drop L k) :=
  List.pairwise_append.2 ⟨h.sub (List.filter_sublist ..), h.sub (List.filter_sublist ..), fun e he f hf => lt_lt (rises_below L k e he) (rises_above L k f hf)⟩
/-- Around a key that may be there. -/
theorem around {L : List Ent} (h : Rises L) (k : ByteArray) : L = below L k ++ (match get L k with | some a => [(k, a)] | none => []) ++ above L k := by
  induction L with
  | nil => rfl
  | cons e L ih =>
    have hr := (List.pairwise_cons.1 h).1
    have ih := ih (List.pairwise_cons.1 h).2
    by_cases c : e.1 = k
    · obtain ⟨h1, h2, -⟩ := mid_at (L := []) h c
      rw [List.nil_append] at h1 h2
      rw [h1, h2, get, if_pos c]
      simp [← c]
    · have hn : cmp e.1 k ≠ 0 := fun h0 => c (cmp_eq h0)
      by_cases hl : cmp e.1 k < 0
      · obtain ⟨h1, h2, -⟩ := mid_right (L := []) h hl
        rw [List.nil_append] at h1 h2
        rw [h1, h2, get, if_neg c]
        conv => lhs; rw [ih]
        simp
      · have hl' : cmp k e.1 < 0 := by rw [cmp_anti]; omega
        obtain ⟨h1, h2, -⟩ := mid_left (L := []) h hl'
        have hg := get_left (L := []) h hl'
        rw [List.nil_append] at h1 h2 hg
        rw [h1, h2, hg]
        simp [get, below, above]
theorem put_len {L : List Ent} (h : Rises L) (k : ByteArray) (a : Int) : (put L k a).length = L.length + (if (get L k).isSome then 0 else 1) := by
  have := congrArg List.length (around h k)
  simp only [put, List.length_append, List.length_cons] at this ⊢
  cases hg : get L k <;> rw [hg] at this <;> simp at this ⊢ <;> omega
theorem drop_len (L : List Ent) (k : ByteArray) : (drop L k).length ≤ L.length := by
  have h1 : ∀ M : List Ent, (below M k).length + (above M k).length ≤ M.length := fun M => by
    induction M with
    | nil => simp [below, above]
    | cons e M ih =>
      simp only [below, above, List.filter_cons, List.length_cons] at ih ⊢
      repeat' split
      all_goals (simp at *; omega)
  simpa [drop] using h1 L
theorem get_put {L : List Ent} (h : Rises L) (k : ByteArray) (a : Int) (q : ByteArray) : get (put L k a) q = if q = k then some a else get L q := by
  by_cases c : q = k
  · subst c
    rw [if_pos rfl, put, get_at (e := (q, a)) (h.put q a) rfl]
  · rw [if_neg c]
    have hk : cmp q k ≠ 0 := fun h0 => c (cmp_eq h0)
    conv => rhs; rw [around h k]
    rw [put, get_append, List.append_assoc, get_append]
    congr 1
    cases get L k with
    | none => simp [get, Ne.symm c]
    | some b => simp [get, Ne.symm c]
theorem get_drop {L : List Ent} (h : Rises L) (k q : ByteArray) : get (drop L k) q = if q = k then none else get L q := by
  by_cases c : q = k
  · subst c
    rw [if_pos rfl]
    refine get_none fun e he c => ?_
    have h0 := cmp_self q
    rcases List.mem_append.1 he with he | he
    · have := rises_below L q e he; rw [c] at this; omega
    · have := rises_above L q e he; rw [c] at this; omega
  · rw [if_neg c]
    conv => rhs; rw [around h k]
    rw [drop, get_append, List.append_assoc, get_append]
    congr 1
    cases get L k with
    | none => simp
    | some b => simp [get, Ne.symm c]
theorem drop_same {L : List Ent} (h : Rises L) {k : ByteArray} (hg : get L k = none) : drop L k = L := by
  have := around h k
  rw [hg] at this
  simpa [drop] using this.symm
/-- Two lists that rise and tell the same are one. -/
theorem Rises.one : ∀ {L M : List Ent}, Rises L → Rises M → (∀ k, get L k = get M k) → L = M
  | [], [], _, _, _ => rfl
  | [], f :: M, _, _, h => by have := h f.1; simp [get] at this
  | e :: L, [], _, _, h => by have := h e.1; simp [get] at this
  | e :: L, f :: M, hL, hM, h => by
    have hL' := List.pairwise_cons.1 hL
    have hM' := List.pairwise_cons.1 hM
    have he : e.1 = f.1 := by
      refine cmp_eq ?_
      have h1 : ¬ cmp e.1 f.1 < 0 := fun c => by
        have h2 := h e.1
        rw [show f :: M = [] ++ f :: M from rfl, get_left hM c] at h2
        simp [get] at h2
      have h2 : ¬ cmp f.1 e.1 < 0 := fun c => by
        have h2 := h f.1
        rw [show e :: L = [] ++ e :: L from rfl, get_left hL c] at h2
        simp [get] at h2
      rw [cmp_anti] at h2
      omega
    have h2 : e = f := by
      have := h e.1
      rw [get, get, if_pos rfl, if_pos he.symm] at this
      exact Prod.ext he (Option.some.inj this)
    subst h2
    rw [Rises.one hL'.2 hM'.2 fun k => ?_]
    have := h k
    by_cases c : e.1 = k
    · rw [get_none (L := L), get_none (L := M)]
      · intro g hg hc
        have := hM'.1 g hg
        rw [hc, c] at this
        have := cmp_self k
        omega
      · intro g hg hc
        have := hL'.1 g hg
        rw [hc, c] at this
        have := cmp_self k
        omega
    · rwa [get, get, if_neg c, if_neg c] at this

/-! ### trees -/
/-- A tree: its block, what is on the left, key, number, what is on the right. -/
inductive T where
  | nil
  | bin (b : Nat) (l : T) (k : ByteArray) (a : Int) (r : T)
namespace T
def size : T → Nat
  | nil => 0
  | bin _ l _ _ r => size l + 1 + size r
def ents : T → List Ent
  | nil => []
  | bin _ l k a r => ents l ++ (k, a) :: ents r
def blks : T → List Nat
  | nil => []
  | bin b l _ _ r => b :: (blks l ++ blks r)
def left : T → T
  | nil => nil
  | bin _ l _ _ _ => l
def right : T → T
  | nil => nil
  | bin _ _ _ _ r => r
def rotL : T → T
  | bin b l k a (bin c m k2 a2 r) => bin c (bin b l k a m) k2 a2 r
  | t => t
def rotR : T → T
  | bin b (bin c l k2 a2 m) k a r => bin c l k2 a2 (bin b m k a r)
  | t => t
def bal (b : Nat) (l : T) (k : ByteArray) (a : Int) (r : T) : T :=
  if 3 * (size r + 1) < size l + 1 then rotR (bin b (if 2 * (size l.left + 1) ≤ size l.right + 1 then rotL l else l) k a r)
  else if 3 * (size l + 1) < size r + 1 then rotL (bin b l k a (if 2 * (size r.right + 1) ≤ size r.left + 1 then rotR r else r))
  else bin b l k a r
/-- With one more, whose block is nb. -/
def ins (nb : Nat) (q : ByteArray) (x : Int) : T → T
  | nil => bin nb nil q x nil
  | bin b l k a r => if cmp q k < 0 then bal b (ins nb q x l) k a r else bal b l k a (ins nb q x r)
/-- The first one. -/
def isNil : T → Bool
  | nil => true
  | _ => false
theorem isNil_iff {t : T} : t.isNil = true ↔ t = nil := by cases t <;> simp [isNil]
def first : T → Ent
  | nil => (ByteArray.empty, 0)
  | bin _ l k a _ => if l.isNil then (k, a) else first l
def del (q : ByteArray) : T → T
  | nil => nil
  | bin b l k a r => if cmp q k < 0 then bal b (del q l) k a r else if 0 < cmp q k then bal b l k a (del q r)
    else if l.isNil then r else if r.isNil then l else bal b l (first r).1 (first r).2 (del (first r).1 r)
/-- The block of a key, and its number. -/
def find (q : ByteArray) : T → Option (Nat × Int)
  | nil => none
  | bin b l k a r => if cmp q k < 0 then find q l else if 0 < cmp q k then find q r else some (b, a)
/-- Its number is another one. -/
def set (q : ByteArray) (x : Int) : T → T
  | nil => nil
  | bin b l k a r => if cmp q k < 0 then bin b (set q x l) k a r else if 0 < cmp q k then bin b l k a (set q x r) else bin b l k x r
/-- What of a tree is shown from a key on, behind what was taken, while it is wanted. -/
def from_ (want : List Ent → Ent → Bool) : T → ByteArray → List Ent → Bool × List Ent
  | nil, _, acc => (true, acc)
  | bin _ l k a r, q, acc =>
    if cmp k q < 0 then from_ want r q acc
    else match from_ want l q acc with
      | (false, acc) => (false, acc)
      | (true, acc) => if want acc (k, a) then from_ want r ByteArray.empty (acc ++ [(k, a)]) else (false, acc)

theorem ents_len : ∀ t : T, t.ents.length = t.size
  | nil => rfl
  | bin _ l _ _ r => by simp [ents, size, ents_len l, ents_len r]; omega
theorem blks_len : ∀ t : T, t.blks.length = t.size
  | nil => rfl
  | bin _ l _ _ r => by simp [blks, size, blks_len l, blks_len r]; omega
theorem ents_rotL (t : T) : (rotL t).ents = t.ents := by
  unfold rotL
  split <;> simp [ents]
theorem ents_rotR (t : T) : (rotR t).ents = t.ents := by
  unfold rotR
  split <;> simp [ents]
theorem blks_rotL (t : T) : (rotL t).blks.Perm t.blks := by
  unfold rotL
  split
  · rename_i b l k a c m k2 a2 r
    simp only [blks, List.cons_append]
    refine List.Perm.trans (List.Perm.swap ..) (List.Perm.cons b ?_)
    rw [List.append_assoc]
    exact List.perm_middle.symm
  · exact List.Perm.refl _
theorem blks_rotR (t : T) : (rotR t).blks.Perm t.blks := by
  unfold rotR
  split
  · rename_i b c l k2 a2 m k a r
    simp only [blks, List.cons_append]
    rw [List.append_assoc]
    exact (List.Perm.cons c List.perm_middle).trans (List.Perm.swap ..)
  · exact List.Perm.refl _
theorem size_rotL (t : T) : (rotL t).size = t.size := by rw [← ents_len, ents_rotL, ents_len]
theorem size_rotR (t : T) : (rotR t).size = t.size := by rw [← ents_len, ents_rotR, ents_len]
theorem ents_bal (b : Nat) (l : T) (k : ByteArray) (a : Int) (r : T) : (bal b l k a r).ents = l.ents ++ (k, a) :: r.ents := by
  unfold bal
  split
  · rw [ents_rotR, ents]; split <;> simp [ents_rotL]
  · split
    · rw [ents_rotL, ents]; split <;> simp [ents_rotR]
    · rfl
theorem blks_bal (b : Nat) (l : T) (k : ByteArray) (a : Int) (r : T) : (bal b l k a r).blks.Perm (b :: (l.blks ++ r.blks)) := by
  unfold bal
  split
  · refine (blks_rotR _).trans ?_
    rw [blks]
    refine List.Perm.cons b (List.Perm.append_right _ ?_)
    split
    · exact blks_rotL l
    · exact List.Perm.refl _
  · split
    · refine (blks_rotL _).trans ?_
      rw [blks]
      refine List.Perm.cons b (List.Perm.append_left _ ?_)
      split
      · exact blks_rotR r
      · exact List.Perm.refl _
    · exact List.Perm.refl _
theorem ents_ins (nb : Nat) (q : ByteArray) (x : Int) : ∀ {t : T}, Rises t.ents → get t.ents q = none → (ins nb q x t).ents = put t.ents q x
  | nil, _, _ => rfl
  | bin b l k a r, h, hg => by
    rw [ents] at h hg
    rw [ins]
    by_cases c : cmp q k < 0
    · rw [get_left (e := (k, a)) h c] at hg
      obtain ⟨h1, h2, -⟩ := mid_left (e := (k, a)) h c
      rw [if_pos c, ents_bal, ents_ins nb q x h.fst hg, ents, put, put, h1, h2]
      simp
    · have c' : cmp k q < 0 := by
        rw [cmp_anti]
        by_cases e : cmp q k = 0
        · rw [get_at (e := (k, a)) h (cmp_eq e).symm] at hg; cases hg
        · omega
      rw [get_right (e := (k, a)) h c'] at hg
      obtain ⟨h1, h2, -⟩ := mid_right (e := (k, a)) h c'
      rw [if_neg c, ents_bal, ents_ins nb q x h.snd hg, ents, put, put, h1, h2]
      simp
theorem blks_ins (nb : Nat) (q : ByteArray) (x : Int) : ∀ t : T, (ins nb q x t).blks.Perm (nb :: t.blks)
  | nil => List.Perm.refl _
  | bin b l k a r => by
    rw [ins]
    split
    · refine (blks_bal ..).trans ?_
      rw [blks]
      refine (List.Perm.cons b (List.Perm.append_right _ (blks_ins nb q x l))).trans ?_
      exact List.Perm.swap ..
    · refine (blks_bal ..).trans ?_
      rw [blks]
      refine (List.Perm.cons b (List.Perm.append_left _ (blks_ins nb q x r))).trans ?_
      exact (List.Perm.cons b List.perm_middle).trans (List.Perm.swap ..)
theorem first_ents : ∀ {t : T}, t ≠ nil → ∃ M, t.ents = t.first :: M
  | nil, h => absurd rfl h
  | bin b l k a r, _ => by
    rw [ents, first]
    cases l with
    | nil => exact ⟨r.ents, rfl⟩
    | bin c l k2 a2 m =>
      obtain ⟨M, hM⟩ := first_ents (t := bin c l k2 a2 m) (by simp)
      refine ⟨M ++ (k, a) :: r.ents, ?_⟩
      rw [hM, if_neg (by simp [isNil])]
      rfl
theorem first_get {t : T} (hn : t ≠ nil) (_h : Rises t.ents) : get t.ents t.first.1 = some t.first.2 := by
  obtain ⟨M, hM⟩ := first_ents hn
  rw [hM, get, if_pos rfl]
theorem del_mid {b : Nat} {l r : T} {k q : ByteArray} {a : Int} (h1 : ¬ cmp q k < 0) (h2 : ¬ 0 < cmp q k) (hl : l ≠ nil) (hr : r ≠ nil) : del q (bin b l k a r) = bal b l r.first.1 r.first.2 (del r.first.1 r) := by
  rw [del, if_neg h1, if_neg h2, if_neg (by rw [isNil_iff]; exact hl), if_neg (by rw [isNil_iff]; exact hr)]
theorem del_left {b : Nat} {r : T} {k q : ByteArray} {a : Int} (h1 : ¬ cmp q k < 0) (h2 : ¬ 0 < cmp q k) : del q (bin b nil k a r) = r := by
  rw [del, if_neg h1, if_neg h2]; rfl
theorem del_right {b : Nat} {l : T} {k q : ByteArray} {a : Int} (h1 : ¬ cmp q k < 0) (h2 : ¬ 0 < cmp q k) (hl : l ≠ nil) : del q (bin b l k a nil) = l := by
  rw [del, if_neg h1, if_neg h2, if_neg (by rw [isNil_iff]; exact hl)]; rfl
theorem ents_del (q : ByteArray) : ∀ {t : T}, Rises t.ents → (del q t).ents = drop t.ents q
  | nil, _ => rfl
  | bin b l k a r, h => by
    rw [ents] at h
    by_cases c : cmp q k < 0
    · obtain ⟨h1, h2, -⟩ := mid_left (e := (k, a)) h c
      rw [del, if_pos c, ents_bal, ents_del q h.fst, ents, drop, drop, h1, h2]
      simp
    · by_cases c' : 0 < cmp q k
      · obtain ⟨h1, h2, -⟩ := mid_right (e := (k, a)) (k := q) h (by rw [cmp_anti]; show - cmp q k < 0; omega)
        rw [del, if_neg c, if_pos c', ents_bal, ents_del q h.snd, ents, drop, drop, h1, h2]
        simp
      · have hk : k = q := (cmp_eq (by omega)).symm
        obtain ⟨h1, h2, -⟩ := mid_at (e := (k, a)) (k := q) h hk
        rw [ents, drop, h1, h2]
        by_cases hl : l = nil
        · subst hl
          rw [del_left c c']
          rfl
        · by_cases hr : r = nil
          · subst hr
            rw [del_right c c' hl]
            simp [ents]
          · rw [del_mid c c' hl hr, ents_bal, ents_del _ h.snd]
            obtain ⟨M, hM⟩ := first_ents hr
            have hs := h.snd
            rw [hM] at hs
            obtain ⟨e1, e2, -⟩ := mid_at (L := []) hs rfl
            rw [hM, drop]
            rw [List.nil_append] at e1 e2
            rw [e1, e2]
            rfl
theorem blks_del (q : ByteArray) : ∀ t : T, ∃ D : List Nat, (D ++ (del q t).blks).Perm t.blks
  | nil => ⟨[], List.Perm.refl _⟩
  | bin b l k a r => by
    by_cases c : cmp q k < 0
    · obtain ⟨D, hD⟩ := blks_del q l
      refine ⟨D, ?_⟩
      rw [del, if_pos c, blks]
      refine (List.Perm.append_left D (blks_bal ..)).trans ?_
      refine List.perm_middle.trans (List.Perm.cons b ?_)
      rw [← List.append_assoc]
      exact List.Perm.append_right _ hD
    · by_cases c' : 0 < cmp q k
      · obtain ⟨D, hD⟩ := blks_del q r
        refine ⟨D, ?_⟩
        rw [del, if_neg c, if_pos c', blks]
        refine (List.Perm.append_left D (blks_bal ..)).trans ?_
        refine List.perm_middle.trans (List.Perm.cons b ?_)
        rw [← List.append_assoc]
        exact ((List.perm_append_comm (l₁ := D)).append_right _).trans (by rw [List.append_assoc]; exact List.Perm.append_left _ hD)
      · by_cases hl : l = nil
        · subst hl
          refine ⟨[b], ?_⟩
          rw [del_left c c', blks]
          exact List.Perm.refl _
        · by_cases hr : r = nil
          · subst hr
            refine ⟨[b], ?_⟩
            rw [del_right c c' hl]
            simp [blks]
          · obtain ⟨D, hD⟩ := blks_del r.first.1 r
            refine ⟨D, ?_⟩
            rw [del_mid c c' hl hr, blks]
            refine (List.Perm.append_left D (blks_bal ..)).trans ?_
            refine List.perm_middle.trans (List.Perm.cons b ?_)
            rw [← List.append_assoc]
            exact ((List.perm_append_comm (l₁ := D)).append_right _).trans (by rw [List.append_assoc]; exact List.Perm.append_left _ hD)
theorem find_get (q : ByteArray) : ∀ {t : T}, Rises t.ents → (find q t).map (·.2) = get t.ents q
  | nil, _ => rfl
  | bin b l k a r, h => by
    rw [ents] at h
    rw [find, ents]
    by_cases c : cmp q k < 0
    · rw [if_pos c, get_left (e := (k, a)) h c, find_get q h.fst]
    · by_cases c' : 0 < cmp q k
      · rw [if_neg c, if_pos c', get_right (e := (k, a)) h (by rw [cmp_anti]; show - cmp q k < 0; omega), find_get q h.snd]
      · rw [if_neg c, if_neg c', get_at (e := (k, a)) h (show k = q from (cmp_eq (by omega)).symm)]; rfl
theorem find_blks (q : ByteArray) : ∀ {t : T} {b : Nat} {a : Int}, find q t = some (b, a) → b ∈ t.blks
  | nil, _, _, h => by cases h
  | bin b l k a r, c, x, h => by
    rw [find] at h
    rw [blks]
    split at h
    · exact List.mem_cons_of_mem _ (List.mem_append_left _ (find_blks q h))
    · split at h
      · exact List.mem_cons_of_mem _ (List.mem_append_right _ (find_blks q h))
      · cases h; exact List.mem_cons_self
theorem blks_set (q : ByteArray) (x : Int) : ∀ t : T, (set q x t).blks = t.blks
  | nil => rfl
  | bin b l k a r => by
    rw [set]
    split
    · rw [blks, blks, blks_set q x l]
    · split
      · rw [blks, blks, blks_set q x r]
      · rfl
theorem size_set (q : ByteArray) (x : Int) (t : T) : (set q x t).size = t.size := by rw [← blks_len, blks_set, blks_len]
theorem ents_set (q : ByteArray) (x : Int) : ∀ {t : T}, Rises t.ents → (find q t).isSome → (set q x t).ents = put t.ents q x
  | nil, _, h => by cases h
  | bin b l k a r, h, hf => by
    rw [ents] at h
    rw [find] at hf
    rw [set, ents, put]
    by_cases c : cmp q k < 0
    · obtain ⟨h1, h2, -⟩ := mid_left (e := (k, a)) h c
      rw [if_pos c] at hf
      rw [if_pos c, ents, ents_set q x h.fst hf, h1, h2, put]
      simp
    · by_cases c' : 0 < cmp q k
      · obtain ⟨h1, h2, -⟩ := mid_right (e := (k, a)) (k := q) h (by rw [cmp_anti]; show - cmp q k < 0; omega)
        rw [if_neg c, if_pos c'] at hf
        rw [if_neg c, if_pos c', ents, ents_set q x h.snd hf, h1, h2, put]
        simp
      · have hk : k = q := (cmp_eq (by omega)).symm
        obtain ⟨h1, h2, -⟩ := mid_at (e := (k, a)) (k := q) h hk
        rw [if_neg c, if_neg c', h1, h2, ents, hk]
/-- How many are ahead. -/
theorem rank_left {l r : T} {k q : ByteArray} {a : Int} (h : Rises (l.ents ++ (k, a) :: r.ents)) (c : ¬ cmp k q < 0) : rank (l.ents ++ (k, a) :: r.ents) q = rank l.ents q := by
  by_cases e : k = q
  · obtain ⟨h1, -, -⟩ := mid_at (e := (k, a)) h e
    have h2 := below_all (k := q) fun f hf => by rw [← e]; exact h.left f hf
    rw [rank, rank, h1, h2.1]
  · have c' : cmp q k < 0 := by
      rw [cmp_anti]
      have : cmp k q ≠ 0 := fun h0 => e (cmp_eq h0)
      omega
    rw [rank, rank, (mid_left (e := (k, a)) h c').1]
theorem rank_right {l r : T} {k q : ByteArray} {a : Int} (h : Rises (l.ents ++ (k, a) :: r.ents)) (c : cmp k q < 0) : rank (l.ents ++ (k, a) :: r.ents) q = l.size + 1 + rank r.ents q := by
  rw [rank, rank, (mid_right (e := (k, a)) h c).1, List.length_append, ents_len, List.length_cons]
  omega
end T
end Hg
end Go.Proofs.Ytldacdpejncbnaa
