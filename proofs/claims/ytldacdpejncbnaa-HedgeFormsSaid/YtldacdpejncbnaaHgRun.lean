/-
  Plain mathematics of layer 15: what is shown of a tree from a key on; the first so many that belong; those under a prefix.
-/
import Derived.Test.YtldacdpejncbnaaHgPure
namespace Go.Proofs.Ytldacdpejncbnaa
open Go.RowKit
namespace Hg

def run (want : List Ent → Ent → Bool) : List Ent → List Ent → Bool × List Ent
  | acc, [] => (true, acc)
  | acc, e :: L => if want acc e then run want (acc ++ [e]) L else (false, acc)
theorem run_append (want : List Ent → Ent → Bool) : ∀ (L M acc : List Ent), run want acc (L ++ M) = match run want acc L with
    | (false, a) => (false, a)
    | (true, a) => run want a M
  | [], M, acc => rfl
  | e :: L, M, acc => by
    rw [List.cons_append, run, run]
    by_cases c : want acc e = true
    · rw [if_pos c, if_pos c]; exact run_append want L M _
    · rw [if_neg c, if_neg c]
theorem cmp_empty (k : ByteArray) : 0 ≤ cmp k ByteArray.empty := by
  rw [cmp_L]
  have h : ∀ l : List UInt8, 0 ≤ cmpL l [] := fun l => by cases l <;> simp [cmpL, Lib.compareBytes]
  exact h _
theorem upon_empty (L : List Ent) : upon L ByteArray.empty = L := List.filter_eq_self.2 fun e _ => by simpa using cmp_empty e.1
theorem upon_left {L M : List Ent} {e : Ent} {q : ByteArray} (h : Rises (L ++ e :: M)) (hc : ¬ cmp e.1 q < 0) : upon (L ++ e :: M) q = upon L q ++ e :: M := by
  by_cases he : e.1 = q
  · rw [(mid_at h he).2.2, (below_all (k := q) fun f hf => by rw [← he]; exact h.left f hf).2.2]; rfl
  · have : cmp e.1 q ≠ 0 := fun h0 => he (cmp_eq h0)
    exact (mid_left h (by rw [cmp_anti]; omega)).2.2
theorem T.from_run (want : List Ent → Ent → Bool) : ∀ (t : T) (q : ByteArray) (acc : List Ent), Rises t.ents → T.from_ want t q acc = run want acc (upon t.ents q)
  | .nil, _, _, _ => rfl
  | .bin b l k a r, q, acc, h => by
    rw [T.ents] at h
    rw [T.from_, T.ents]
    by_cases c : cmp k q < 0
    · rw [if_pos c, (mid_right (e := (k, a)) h c).2.2, from_run want r q acc h.snd]
    · rw [if_neg c, upon_left (e := (k, a)) h c, run_append, from_run want l q acc h.fst]
      rcases run want acc (upon l.ents q) with ⟨ok, acc'⟩
      cases ok with
      | false => rfl
      | true =>
        simp only [run]
        by_cases c2 : want acc' (k, a) = true
        · rw [if_pos c2, if_pos c2, from_run want r _ _ h.snd, upon_empty]
        · rw [if_neg c2, if_neg c2]
theorem T.from_len (want : List Ent → Ent → Bool) : ∀ (t : T) (q : ByteArray) (acc : List Ent), (T.from_ want t q acc).2.length ≤ acc.length + t.size
  | .nil, _, _ => by rw [T.from_]; exact Nat.le_add_right ..
  | .bin b l k a r, q, acc => by
    rw [T.from_, T.size]
    by_cases c : cmp k q < 0
    · rw [if_pos c]
      have := from_len want r q acc
      omega
    · rw [if_neg c]
      have h1 := from_len want l q acc
      rcases hl : T.from_ want l q acc with ⟨ok, acc'⟩
      rw [hl] at h1
      cases ok with
      | false => simp only at h1 ⊢; omega
      | true =>
        simp only at h1 ⊢
        by_cases c2 : want acc' (k, a) = true
        · rw [if_pos c2]
          have := from_len want r ByteArray.empty (acc' ++ [(k, a)])
          rw [List.length_append, List.length_singleton] at this
          omega
        · rw [if_neg c2]; simp only; omega
/-- Whether one more is wanted: there is room, and its key belongs. -/
def want (n : Int) (bel : ByteArray → Bool) (acc : List Ent) (e : Ent) : Bool := decide ((acc.length : Int) < n) && bel e.1
/-- The first so many that belong. -/
def some_ (n : Int) (bel : ByteArray → Bool) (L : List Ent) : List Ent := (L.takeWhile fun e => bel e.1).take n.toNat
theorem run_take (n : Int) (bel : ByteArray → Bool) : ∀ (L acc : List Ent), (run (want n bel) acc L).2 = acc ++ (L.takeWhile fun e => bel e.1).take (n - acc.length).toNat
  | [], acc => by simp [run]
  | e :: L, acc => by
    rw [run, want]
    by_cases c : (acc.length : Int) < n
    · by_cases b : bel e.1 = true
      · rw [if_pos (by simp [c, b]), run_take n bel L, List.takeWhile_cons_of_pos (by simpa using b)]
        rw [show (n - acc.length).toNat = (n - (acc ++ [e]).length).toNat + 1 by rw [List.length_append, List.length_singleton]; omega, List.take_succ_cons]
        simp
      · rw [if_neg (by simp [b]), List.takeWhile_cons_of_neg (by simpa using b)]
        simp
    · rw [if_neg (by simp [c]), show (n - acc.length).toNat = 0 by omega]
      simp
theorem from_some (n : Int) (bel : ByteArray → Bool) (t : T) (q : ByteArray) (h : Rises t.ents) : (T.from_ (want n bel) t q []).2 = some_ n bel (upon t.ents q) := by
  rw [T.from_run _ t q [] h, run_take, some_]
  simp
theorem rises_upon {L : List Ent} (h : Rises L) (q : ByteArray) : Rises (upon L q) := h.sub (List.filter_sublist ..)
theorem upon_ge (L : List Ent) (q : ByteArray) : ∀ e ∈ upon L q, 0 ≤ cmp e.1 q := fun e he => by simpa using (List.mem_filter.1 he).2
def begins (p k : ByteArray) : Bool := Lib.hasPrefix k.data.toList p.data.toList
theorem begins_iff {p k : ByteArray} : begins p k = true ↔ p.data.toList <+: k.data.toList := List.isPrefixOf_iff_prefix
/-- What begins with a prefix stands side by side, from it on. -/
theorem while_filter {p : ByteArray} : ∀ {L : List Ent}, Rises L → (∀ e ∈ L, 0 ≤ cmp e.1 p) → (L.takeWhile fun e => begins p e.1) = L.filter fun e => begins p e.1
  | [], _, _ => rfl
  | e :: L, h, hg => by
    have h' := List.pairwise_cons.1 h
    by_cases c : begins p e.1 = true
    · rw [List.takeWhile_cons_of_pos (by simpa using c), List.filter_cons_of_pos (by simpa using c), while_filter h'.2 fun f hf => hg f (List.mem_cons_of_mem _ hf)]
    · rw [List.takeWhile_cons_of_neg (by simpa using c), List.filter_cons_of_neg (by simpa using c)]
      refine (List.filter_eq_nil_iff.2 fun f hf hb => c ?_).symm
      have h1 := h'.1 f hf
      have h2 := hg e List.mem_cons_self
      rw [cmp_anti] at h2
      exact begins_iff.2 (cmpL_mid (show cmpL _ _ ≤ 0 by rw [← cmp_L]; omega) (show cmpL _ _ ≤ 0 by rw [← cmp_L]; omega) (begins_iff.1 hb))
theorem all_while (L : List Ent) : (L.takeWhile fun e => (fun _ => true) e.1) = L := by
  induction L with
  | nil => rfl
  | cons e L ih => rw [List.takeWhile_cons_of_pos (by simp), ih]
end Hg
end Go.Proofs.Ytldacdpejncbnaa
