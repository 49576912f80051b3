/-
  Plain mathematics of layer 5 (tract): nodes as trees; sizes, depths, what is good, references, whether there is a This; a list of nodes that is gone through.
-/
import Derived.Test.YtbphmaoomnocmaaDoorNmPure
namespace Go.Proofs.YtbphmaoomnocmaaDoor
open Go.RowKit
namespace Tr

/-- A node: its kind, its two texts, its kids. -/
inductive Nd where
  | mk (k : Int) (a b : ByteArray) (kids : List Nd)
namespace Nd
def kind : Nd → Int
  | .mk k _ _ _ => k
def ta : Nd → ByteArray
  | .mk _ a _ _ => a
def tb : Nd → ByteArray
  | .mk _ _ b _ => b
def kids : Nd → List Nd
  | .mk _ _ _ l => l
end Nd

mutual
def size : Nd → Nat
  | .mk _ _ _ l => 1 + sizes l
def sizes : List Nd → Nat
  | [] => 0
  | n :: r => size n + sizes r
end
mutual
def depth : Nd → Nat
  | .mk _ _ _ l => 1 + depths l
def depths : List Nd → Nat
  | [] => 0
  | n :: r => max (depth n) (depths r)
end

theorem size_pos (n : Nd) : 1 ≤ size n := by cases n; rw [size]; omega
theorem depth_pos (n : Nd) : 1 ≤ depth n := by cases n; rw [depth]; omega
theorem size_kids (n : Nd) : size n = 1 + sizes n.kids := by cases n; rw [size]; rfl
theorem depth_kids (n : Nd) : depth n = 1 + depths n.kids := by cases n; rw [depth]; rfl
theorem sizes_append : ∀ l m : List Nd, sizes (l ++ m) = sizes l + sizes m
  | [], m => by simp [sizes]
  | n :: l, m => by rw [List.cons_append, sizes, sizes, sizes_append l m]; omega
theorem sizes_mem : ∀ {l : List Nd} {n : Nd}, n ∈ l → size n ≤ sizes l
  | m :: l, n, h => by
    rw [sizes]
    rcases List.mem_cons.1 h with rfl | h
    · omega
    · have := sizes_mem h; omega
theorem sizes_len : ∀ l : List Nd, l.length ≤ sizes l
  | [] => Nat.zero_le _
  | n :: l => by have := sizes_len l; have := size_pos n; rw [sizes, List.length_cons]; omega
theorem sizes_take {l : List Nd} {i : Nat} (h : i < l.length) : sizes (l.take (i + 1)) = sizes (l.take i) + size l[i] := by
  rw [List.take_succ_eq_append_getElem h, sizes_append]
  simp [sizes]
theorem sizes_part (l : List Nd) (i : Nat) : sizes (l.take i) ≤ sizes l := by
  have h : sizes (l.take i ++ l.drop i) = sizes l := by rw [List.take_append_drop]
  rw [sizes_append] at h
  omega
theorem depth_le_size : ∀ (k : Nat) (n : Nd), size n ≤ k → depth n ≤ size n
  | 0, n, h => by have := size_pos n; omega
  | k + 1, .mk _ _ _ l, h => by
    rw [size] at h
    have hl : ∀ l' : List Nd, sizes l' ≤ k → depths l' ≤ sizes l' := by
      intro l'
      induction l' with
      | nil => intro _; rw [depths]; omega
      | cons n r ih =>
        intro h'
        rw [sizes] at h'
        have h1 := depth_le_size k n (by omega)
        have h2 := ih (by omega)
        rw [depths, sizes]
        omega
    have := hl l (by omega)
    rw [depth, size]
    omega
theorem depth_le (n : Nd) : depth n ≤ size n := depth_le_size _ n (Nat.le_refl _)
theorem depths_le : ∀ l : List Nd, depths l ≤ sizes l
  | [] => by rw [depths]; omega
  | n :: l => by
    have := depth_le n
    have := depths_le l
    rw [depths, sizes]
    omega
theorem depths_append : ∀ l m : List Nd, depths (l ++ m) = max (depths l) (depths m)
  | [], m => by simp [depths]
  | n :: l, m => by rw [List.cons_append, depths, depths, depths_append l m]; omega
theorem depths_take {l : List Nd} {i : Nat} (h : i < l.length) : depths (l.take (i + 1)) = max (depths (l.take i)) (depth l[i]) := by
  rw [List.take_succ_eq_append_getElem h, depths_append]
  simp [depths]

/-! ### what is good -/
def none0 : ByteArray := ⟨#[]⟩
def nil (s : ByteArray) : Bool := s.data.toList.isEmpty
def word (s : ByteArray) : Bool := Gly.nameB s.data.toList && (!s.data.toList == [116, 121, 112, 101] && !s.data.toList == [114, 101, 108] && !s.data.toList == [116, 104, 105, 115])
def fits : Nd → Bool
  | .mk k a b l =>
    (k == 1 && (nil a && nil b && l.length == 0)) || (k == 2 && (word a && nil b && l.length == 0)) || (k == 3 && (word a && word b && l.length == 0)) ||
    ((k == 4 || k == 5) && (nil a && nil b && decide (2 ≤ l.length))) || (k == 6 && (nil a && nil b && l.length == 2))
mutual
def good : Nd → Bool
  | .mk k a b l => goods l && fits (.mk k a b l)
def goods : List Nd → Bool
  | [] => true
  | n :: r => good n && goods r
end
theorem good_kids (n : Nd) : good n = (goods n.kids && fits n) := by cases n; rw [good]; rfl
theorem goods_append : ∀ l m : List Nd, goods (l ++ m) = (goods l && goods m)
  | [], m => by simp [goods]
  | n :: l, m => by rw [List.cons_append, goods, goods, goods_append l m, Bool.and_assoc]
theorem goods_take {l : List Nd} {i : Nat} (h : i < l.length) : goods (l.take (i + 1)) = (goods (l.take i) && good l[i]) := by
  rw [List.take_succ_eq_append_getElem h, goods_append]
  simp [goods]
theorem goods_part {l : List Nd} {i : Nat} (h : goods (l.take i) = false) : goods l = false := by
  have e : goods (l.take i ++ l.drop i) = goods l := by rw [List.take_append_drop]
  rw [← e, goods_append, h, Bool.false_and]
theorem goods_mem : ∀ {l : List Nd} {n : Nd}, goods l = true → n ∈ l → good n = true
  | m :: l, n, h, hm => by
    rw [goods, Bool.and_eq_true] at h
    rcases List.mem_cons.1 hm with rfl | hm
    · exact h.1
    · exact goods_mem h.2 hm
/-- The error of a node: 0, if there is none. -/
def errOf (n : Nd) : Int := if good n = false then 2 else if 24 < size n then 3 else if 8 < depth n then 12 else 0

/-! ### references -/
structure Rf where
  via : ByteArray
  rel : ByteArray
  odd : Bool
/-- Whether a kid's place turns odd and even. -/
def flip (k : Int) (i : Nat) : Bool := k == 6 && i == 1
mutual
def refs : Nd → Bool → List Rf
  | .mk k a b l, odd => if k = 2 then [⟨none0, a, odd⟩] else if k = 3 then [⟨a, b, odd⟩] else refss k l 0 odd
def refss (k : Int) : List Nd → Nat → Bool → List Rf
  | [], _, _ => []
  | n :: r, i, odd => refs n (odd != flip k i) ++ refss k r (i + 1) odd
end
mutual
def direct : Nd → Bool → Bool → Bool
  | .mk k _ _ l, odd, own => directs k l 0 odd own || (k == 1 && odd == own)
def directs (k : Int) : List Nd → Nat → Bool → Bool → Bool
  | [], _, _, _ => false
  | n :: r, i, odd, own => direct n odd (own != flip k i) || directs k r (i + 1) odd own
end
theorem refss_append (k : Int) (odd : Bool) : ∀ (l m : List Nd) (i : Nat), refss k (l ++ m) i odd = refss k l i odd ++ refss k m (i + l.length) odd
  | [], m, i => by simp [refss]
  | n :: l, m, i => by rw [List.cons_append, refss, refss, refss_append k odd l m (i + 1), List.append_assoc, List.length_cons, show i + 1 + l.length = i + (l.length + 1) by omega]
theorem refss_take (k : Int) (odd : Bool) {l : List Nd} {i : Nat} (h : i < l.length) : refss k (l.take (i + 1)) 0 odd = refss k (l.take i) 0 odd ++ refs l[i] (odd != flip k i) := by
  rw [List.take_succ_eq_append_getElem h, refss_append, List.length_take, Nat.min_eq_left (by omega)]
  simp [refss]
theorem directs_append (k : Int) (odd own : Bool) : ∀ (l m : List Nd) (i : Nat), directs k (l ++ m) i odd own = (directs k l i odd own || directs k m (i + l.length) odd own)
  | [], m, i => by simp [directs]
  | n :: l, m, i => by rw [List.cons_append, directs, directs, directs_append k odd own l m (i + 1), Bool.or_assoc, List.length_cons, show i + 1 + l.length = i + (l.length + 1) by omega]
theorem directs_take (k : Int) (odd own : Bool) {l : List Nd} {i : Nat} (h : i < l.length) : directs k (l.take (i + 1)) 0 odd own = (directs k (l.take i) 0 odd own || direct l[i] odd (own != flip k i)) := by
  rw [List.take_succ_eq_append_getElem h, directs_append, List.length_take, Nat.min_eq_left (by omega)]
  simp [directs]
theorem directs_part (k : Int) (odd own : Bool) {l : List Nd} {i : Nat} (h : directs k (l.take i) 0 odd own = true) : directs k l 0 odd own = true := by
  have e : directs k (l.take i ++ l.drop i) 0 odd own = directs k l 0 odd own := by rw [List.take_append_drop]
  rw [← e, directs_append, h, Bool.true_or]
mutual
theorem refs_len : ∀ (n : Nd) (odd : Bool), (refs n odd).length ≤ size n
  | .mk k a b l, odd => by
    have h := refss_len k l 0 odd
    rw [refs, size]
    split
    · simp
    · split
      · simp
      · omega
theorem refss_len (k : Int) : ∀ (l : List Nd) (i : Nat) (odd : Bool), (refss k l i odd).length ≤ sizes l
  | [], i, odd => by simp [refss]
  | n :: r, i, odd => by
    have h1 := refs_len n (odd != flip k i)
    have h2 := refss_len k r (i + 1) odd
    rw [refss, sizes, List.length_append]
    omega
end

/-! ### a list of nodes that is gone through: the one that is seen next stands first -/
section
variable {σ : Type} (go : σ → Nd → Nat → Bool) (stp : σ → Nd → Nat → σ)
def push (n : Nd) (d : Nat) (r : List (Nd × Nat)) : List (Nd × Nat) := (n.kids.map fun x => (x, d + 1)).reverse ++ r
def run : Nat → List (Nd × Nat) → σ → Bool × σ
  | 0, _, s => (true, s)
  | _ + 1, [], s => (true, s)
  | f + 1, (n, d) :: r, s => if go s n d then run f (push n d r) (stp s n d) else (false, stp s n d)
end
def tot (l : List (Nd × Nat)) : Nat := sizes (l.map Prod.fst)
theorem tot_cons (n : Nd) (d : Nat) (r : List (Nd × Nat)) : tot ((n, d) :: r) = size n + tot r := by simp [tot, sizes]
theorem sizes_reverse : ∀ l : List Nd, sizes l.reverse = sizes l
  | [] => rfl
  | n :: l => by rw [List.reverse_cons, sizes_append, sizes_reverse l]; simp [sizes]; omega
theorem fst_push (n : Nd) (d : Nat) (r : List (Nd × Nat)) : (push n d r).map Prod.fst = n.kids.reverse ++ r.map Prod.fst := by
  simp [push, List.map_reverse, Function.comp_def]
theorem tot_push (n : Nd) (d : Nat) (r : List (Nd × Nat)) : tot (push n d r) + 1 = tot ((n, d) :: r) := by
  rw [tot, fst_push, sizes_append, sizes_reverse, tot_cons, size_kids]
  show _ + tot r + 1 = _
  omega
theorem goods_reverse : ∀ l : List Nd, goods l.reverse = goods l
  | [] => rfl
  | n :: l => by rw [List.reverse_cons, goods_append, goods_reverse l, goods, Bool.and_comm]; simp [goods]

theorem run_good : ∀ (f : Nat) (l : List (Nd × Nat)), tot l ≤ f → (run (σ := Unit) (fun _ n _ => fits n) (fun _ _ _ => ()) f l ()).1 = goods (l.map Prod.fst)
  | 0, [], _ => rfl
  | 0, (n, d) :: r, h => by rw [tot_cons] at h; have := size_pos n; omega
  | f + 1, [], _ => rfl
  | f + 1, (n, d) :: r, h => by
    have hp := tot_push n d r
    rw [run, List.map_cons, goods, good_kids]
    cases hf : fits n with
    | true =>
      rw [if_pos rfl, run_good f _ (by omega), fst_push, goods_append, goods_reverse, Bool.and_true]
    | false => simp
theorem run_size : ∀ (f : Nat) (l : List (Nd × Nat)) (s : Nat), tot l ≤ f → run (σ := Nat) (fun _ _ _ => true) (fun s _ _ => s + 1) f l s = (true, s + tot l)
  | 0, [], s, _ => rfl
  | 0, (n, d) :: r, s, h => by rw [tot_cons] at h; have := size_pos n; omega
  | f + 1, [], s, _ => rfl
  | f + 1, (n, d) :: r, s, h => by
    have hp := tot_push n d r
    rw [run, if_pos rfl, run_size f _ _ (by omega)]
    simp only [Prod.mk.injEq, true_and]
    omega
/-- The greatest depth of a list's nodes, each as deep as it stands. -/
def deep : List (Nd × Nat) → Nat
  | [] => 0
  | (n, d) :: r => max (d + (depth n - 1)) (deep r)
theorem deep_append : ∀ l m : List (Nd × Nat), deep (l ++ m) = max (deep l) (deep m)
  | [], m => by simp [deep]
  | (n, d) :: l, m => by rw [List.cons_append, deep, deep, deep_append l m]; omega
theorem deep_reverse : ∀ l : List (Nd × Nat), deep l.reverse = deep l
  | [] => rfl
  | (n, d) :: l => by rw [List.reverse_cons, deep_append, deep_reverse l]; simp [deep]; omega
theorem deep_kids (d : Nat) : ∀ l : List Nd, max d (deep (l.map fun x => (x, d + 1))) = d + depths l
  | [] => by simp [deep, depths]
  | n :: l => by
    have := deep_kids d l
    have := depth_pos n
    rw [List.map_cons, deep, depths]
    omega
theorem run_depth : ∀ (f : Nat) (l : List (Nd × Nat)) (s : Nat), tot l ≤ f → run (σ := Nat) (fun _ _ _ => true) (fun s _ d => max s d) f l s = (true, max s (deep l))
  | 0, [], s, _ => by simp [run, deep]
  | 0, (n, d) :: r, s, h => by rw [tot_cons] at h; have := size_pos n; omega
  | f + 1, [], s, _ => by simp [run, deep]
  | f + 1, (n, d) :: r, s, h => by
    have hp := tot_push n d r
    have hk := deep_kids d n.kids
    have hd := depth_kids n
    rw [run, if_pos rfl, run_depth f _ _ (by omega), push, deep_append, deep_reverse, deep]
    simp only [Prod.mk.injEq, true_and]
    omega
end Tr
end Go.Proofs.YtbphmaoomnocmaaDoor
