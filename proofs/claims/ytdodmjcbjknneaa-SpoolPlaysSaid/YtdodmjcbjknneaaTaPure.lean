/-
  Layer 12, pure: a disk of sectors whose power may go; for bytes of any kind (α: what a sector holds).
-/
import Derived.RowKit
namespace Go.Proofs.Ytdodmjcbjknneaa
set_option maxRecDepth 100000
namespace Ta
variable {α : Type}

/-- What a sector holds behind writes: the last one of it counts; z: if there is none. -/
def last (l : List (Int × α)) (k : Int) (z : α) : α := l.foldl (fun b w => if w.1 = k then w.2 else b) z
theorem last_nil (k : Int) (z : α) : last [] k z = z := rfl
theorem last_cons (w : Int × α) (l : List (Int × α)) (k : Int) (z : α) : last (w :: l) k z = last l k (if w.1 = k then w.2 else z) := rfl
theorem last_append (l m : List (Int × α)) (k : Int) (z : α) : last (l ++ m) k z = last m k (last l k z) := by
  unfold last
  rw [List.foldl_append]
theorem last_one (l : List (Int × α)) (w : Int × α) (k : Int) (z : α) : last (l ++ [w]) k z = if w.1 = k then w.2 else last l k z := by
  rw [last_append]; rfl
theorem last_take {l : List (Int × α)} {j : Nat} (hj : j < l.length) (k : Int) (z : α) : last (l.take (j + 1)) k z = if l[j].1 = k then l[j].2 else last (l.take j) k z := by
  rw [List.take_succ_eq_append_getElem hj, last_one]
theorem last_or (l : List (Int × α)) (k : Int) (z : α) : last l k z = z ∨ ∃ w ∈ l, w.1 = k ∧ w.2 = last l k z := by
  induction l generalizing z with
  | nil => exact .inl rfl
  | cons w l ih =>
    rw [last_cons]
    rcases ih (if w.1 = k then w.2 else z) with h | ⟨v, hv, h1, h2⟩
    · rw [h]
      by_cases e : w.1 = k
      · rw [if_pos e]
        exact .inr ⟨w, List.mem_cons_self, e, rfl⟩
      · rw [if_neg e]
        exact .inl rfl
    · exact .inr ⟨v, List.mem_cons_of_mem _ hv, h1, h2⟩
theorem last_none {l : List (Int × α)} {k : Int} (h : ∀ w ∈ l, w.1 ≠ k) (z : α) : last l k z = z := by
  rcases last_or l k z with e | ⟨w, hw, h1, -⟩
  · exact e
  · exact absurd h1 (h w hw)
/-- Whatever a sector was: a property that it had and that all writes have. -/
theorem last_all {P : α → Prop} {l : List (Int × α)} (h : ∀ w ∈ l, P w.2) (k : Int) {z : α} (hz : P z) : P (last l k z) := by
  rcases last_or l k z with e | ⟨w, hw, -, h2⟩
  · rw [e]; exact hz
  · rw [← h2]; exact h w hw

/-- The chosen ones of a list: yes or no for each, in order; no, where it isn't told. -/
def pick {β : Type} : List β → List Bool → List β
  | [], _ => []
  | _ :: _, [] => []
  | b :: l, true :: c => b :: pick l c
  | _ :: l, false :: c => pick l c
theorem pick_nil {β : Type} (l : List β) : pick l [] = [] := by cases l <;> rfl
theorem pick_mem {β : Type} {l : List β} {c : List Bool} {b : β} (h : b ∈ pick l c) : b ∈ l := by
  induction l generalizing c with
  | nil => cases c <;> simp [pick] at h
  | cons x l ih =>
    cases c with
    | nil => simp [pick] at h
    | cons t c =>
      cases t with
      | true =>
        rcases List.mem_cons.1 h with rfl | h
        · exact List.mem_cons_self
        · exact List.mem_cons_of_mem _ (ih h)
      | false => exact List.mem_cons_of_mem _ (ih h)
theorem pick_all {β : Type} {l : List β} {n : Nat} (h : l.length ≤ n) : pick l (List.replicate n true) = l := by
  induction l generalizing n with
  | nil => cases n <;> rfl
  | cons x l ih =>
    cases n with
    | zero => simp at h
    | succ n =>
      rw [List.replicate_succ]
      show x :: pick l (List.replicate n true) = _
      rw [ih (by simpa using h)]
theorem pick_length {β : Type} (l : List β) (c : List Bool) : (pick l c).length ≤ l.length := by
  induction l generalizing c with
  | nil => cases c <;> exact Nat.le_refl _
  | cons x l ih =>
    cases c with
    | nil => exact Nat.zero_le _
    | cons t c =>
      cases t with
      | true => exact Nat.succ_le_succ (ih c)
      | false => exact Nat.le_succ_of_le (ih c)
theorem pick_append {β : Type} (l m : List β) (c : List Bool) : pick (l ++ m) c = pick l c ++ pick m (c.drop l.length) := by
  induction l generalizing c with
  | nil => cases c <;> rfl
  | cons x l ih =>
    cases c with
    | nil => show ([] : List β) = [] ++ pick m (List.drop _ []); rw [List.drop_nil, pick_nil]; rfl
    | cons t c =>
      cases t with
      | true => show x :: pick (l ++ m) c = x :: pick l c ++ _; rw [ih]; rfl
      | false => exact ih c
/-- One more of the list is looked at (the loops of a loss go so). -/
theorem pick_take {β : Type} {l : List β} {j : Nat} (hj : j < l.length) (c : List Bool) : pick (l.take (j + 1)) c = pick (l.take j) c ++ if c.getD j false = true then [l[j]] else [] := by
  have hl : (l.take j).length = j := by rw [List.length_take]; omega
  rw [List.take_succ_eq_append_getElem hj, pick_append, hl]
  congr 1
  by_cases h : j < c.length
  · rw [List.drop_eq_getElem_cons h, List.getD_eq_getElem?_getD, List.getElem?_eq_getElem h]
    cases c[j] <;> simp [pick]
  · rw [List.drop_eq_nil_of_le (by omega), pick_nil, if_neg]
    rw [List.getD_eq_getElem?_getD, List.getElem?_eq_none (by omega)]
    decide

/-- A tray: what is kept and what lies in the cache, in the order of the writes; how many steps are left (below 0: no end); is it dark? -/
structure Tray (α : Type) where
  kept : List (Int × α)
  cache : List (Int × α)
  left : Int
  dark : Bool
namespace Tray
def fresh : Tray α := ⟨[], [], -1, false⟩
def read (z : α) (t : Tray α) (k : Int) : α := last (t.kept ++ t.cache) k z
def was (z : α) (t : Tray α) (k : Int) : α := last t.kept k z
/-- A step, if there is one left. -/
def dim (t : Tray α) : Tray α := { t with dark := true }
def less (t : Tray α) : Tray α := { t with left := if 0 < t.left then t.left - 1 else t.left }
def put (t : Tray α) (k : Int) (b : α) : Tray α := if t.left = 0 then t.dim else { t.less with cache := t.cache ++ [(k, b)] }
def flush (t : Tray α) : Tray α := if t.left = 0 then t.dim else { t.less with kept := t.kept ++ t.cache, cache := [] }
def power (t : Tray α) (n : Int) : Tray α := { t with left := n, dark := false }
def lose (t : Tray α) (c : List Bool) : Tray α := ⟨t.kept ++ pick t.cache c, [], -1, false⟩

theorem read_is (z : α) (t : Tray α) (k : Int) : t.read z k = last t.cache k (t.was z k) := last_append _ _ _ _
theorem read_lose (z : α) (t : Tray α) (c : List Bool) (k : Int) : (t.lose c).read z k = last (pick t.cache c) k (t.was z k) := by
  unfold read lose was
  rw [List.append_nil, last_append]
/-- Behind any loss a sector is what it was flushed as, or one of the writes of the cache. -/
theorem lose_or (z : α) (t : Tray α) (c : List Bool) (k : Int) : (t.lose c).read z k = t.was z k ∨ ∃ w ∈ t.cache, w.1 = k ∧ w.2 = (t.lose c).read z k := by
  rw [read_lose]
  rcases last_or (pick t.cache c) k (t.was z k) with h | ⟨w, hw, h1, h2⟩
  · exact .inl h
  · exact .inr ⟨w, pick_mem hw, h1, h2⟩
theorem lose_all (z : α) (t : Tray α) {n : Nat} (h : t.cache.length ≤ n) (k : Int) : (t.lose (List.replicate n true)).read z k = t.read z k := by
  rw [read_lose, pick_all h, read_is]
theorem lose_none (z : α) (t : Tray α) (k : Int) : (t.lose []).read z k = t.was z k := by
  rw [read_lose, pick_nil]; rfl
theorem lose_twice (t : Tray α) (c d : List Bool) : (t.lose c).lose d = t.lose c := by
  have e : pick ([] : List (Int × α)) d = [] := by cases d <;> rfl
  unfold lose
  rw [e, List.append_nil]
theorem flush_lose (z : α) {t : Tray α} (h : t.left ≠ 0) (c : List Bool) (k : Int) : (t.flush.lose c).read z k = t.flush.read z k := by
  have e : pick ([] : List (Int × α)) c = [] := by cases c <;> rfl
  rw [read_lose]
  unfold flush
  rw [if_neg h]
  show last (pick [] c) k _ = _
  rw [e]
  unfold read was
  rw [List.append_nil]
  rfl
theorem flush_read (z : α) (t : Tray α) (k : Int) : t.flush.read z k = t.read z k := by
  unfold flush
  by_cases h : t.left = 0
  · rw [if_pos h]; rfl
  · rw [if_neg h]; unfold read; rw [List.append_nil]
theorem flush_was (z : α) {t : Tray α} (h : t.left ≠ 0) (k : Int) : t.flush.was z k = t.read z k := by
  unfold flush
  rw [if_neg h]; rfl
theorem put_read (z : α) {t : Tray α} (h : t.left ≠ 0) (a k : Int) (b : α) : (t.put a b).read z k = if a = k then b else t.read z k := by
  unfold put
  rw [if_neg h]
  unfold read
  show last (t.kept ++ (t.cache ++ [(a, b)])) k z = _
  rw [← List.append_assoc, last_one]
theorem put_was (z : α) (t : Tray α) (a k : Int) (b : α) : (t.put a b).was z k = t.was z k := by
  unfold put
  split <;> rfl
/-- Without an end of power: it stays so. -/
theorem put_left {t : Tray α} (h : t.left = -1) (a : Int) (b : α) : (t.put a b).left = -1 := by
  unfold put
  rw [if_neg (by omega)]
  show (if 0 < t.left then t.left - 1 else t.left) = -1
  rw [if_neg (by omega)]; exact h
theorem flush_left {t : Tray α} (h : t.left = -1) : t.flush.left = -1 := by
  unfold flush
  rw [if_neg (by omega)]
  show (if 0 < t.left then t.left - 1 else t.left) = -1
  rw [if_neg (by omega)]; exact h
/-- With a power: one fewer, none below. -/
theorem put_steps {t : Tray α} (h : 0 ≤ t.left) (a : Int) (b : α) : (t.put a b).left = max (t.left - 1) 0 ∧ (t.put a b).dark = (decide (t.left = 0) || t.dark) := by
  unfold put
  by_cases e : t.left = 0
  · rw [if_pos e]
    refine ⟨?_, ?_⟩
    · show t.left = _
      omega
    · simp [dim, e]
  · rw [if_neg e]
    refine ⟨?_, ?_⟩
    · show (if 0 < t.left then t.left - 1 else t.left) = _
      rw [if_pos (by omega)]; omega
    · simp [less, e]
theorem flush_steps {t : Tray α} (h : 0 ≤ t.left) : t.flush.left = max (t.left - 1) 0 ∧ t.flush.dark = (decide (t.left = 0) || t.dark) := by
  unfold flush
  by_cases e : t.left = 0
  · rw [if_pos e]
    refine ⟨?_, ?_⟩
    · show t.left = _
      omega
    · simp [dim, e]
  · rw [if_neg e]
    refine ⟨?_, ?_⟩
    · show (if 0 < t.left then t.left - 1 else t.left) = _
      rw [if_pos (by omega)]; omega
    · simp [less, e]
end Tray

/-- A program that keeps the sectors themselves: a row of sectors that holds what the writes of a list make of it. -/
def Disk (n : Nat) (d : List α) (l : List (Int × α)) (z : α) : Prop := d.length = n ∧ ∀ (k : Nat) (h : k < d.length), d[k] = last l (k : Int) z
theorem disk_nil (n : Nat) (z : α) : Disk n (List.replicate n z) [] z := ⟨List.length_replicate, fun k h => by rw [List.getElem_replicate]; rfl⟩
theorem disk_put {n : Nat} {d : List α} {l : List (Int × α)} {z : α} (h : Disk n d l z) (a : Nat) (b : α) : Disk n (d.set a b) (l ++ [((a : Int), b)]) z := by
  refine ⟨by rw [List.length_set]; exact h.1, fun k hk => ?_⟩
  rw [List.length_set] at hk
  rw [List.getElem_set, last_one]
  by_cases e : a = k
  · subst e
    rw [if_pos rfl, if_pos rfl]
  · rw [if_neg e, if_neg (show ¬ ((a : Int), b).1 = (k : Int) from fun c => e (by exact Int.ofNat.inj c))]
    exact h.2 k hk
end Ta
end Go.Proofs.Ytdodmjcbjknneaa
