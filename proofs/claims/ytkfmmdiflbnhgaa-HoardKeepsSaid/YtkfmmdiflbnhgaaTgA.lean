/-
  Layer 12, pure: a disk of sectors whose power may go; for bytes of any kind (α: what a sector holds).
  Layer 12: boxes of five cells; the document's New, step, Power.
  Layer 12: writes in memory; the document's Read.
-/
import Derived.RowKit
import Derived.Test.YtkfmmdiflbnhgaaRows
import Derived.WalkKit
import Derived.WalkSmall
import Derived.BigCall
import Derived.BigQuiet
import Derived.Deep.QuietTactic
import Derived.Lib.Hide
import Derived.Lib.UnsafeStr
import Derived.IntWalk
import Derived.Below
import Derived.Deep.DeepCutAuto
import Derived.Deep.MidRow
import Derived.Deep.WholeRow
import Derived.Laws.CopyOwn
namespace Go.Proofs.Ytkfmmdiflbnhgaa
set_option maxRecDepth 100000
namespace Ta
variable {α : Type}

/-- What a sector holds behind writes: the last one of it counts; z: if there is none. -/
def last (l : List (Int × α)) (k : Int) (z : α) : α := l.foldl (fun b w => if w.1 = k then w.2 else b) z
theorem last_nil (k : Int) (z : α) : last [] k z = z := rfl
theorem last_cons (w : Int × α) (l : List (Int × α)) (k : Int) (z : α) : last (w :: l) k z = last l k (if w.1 = k then w.2 else z) := rfl
theorem last_append (l m : List (Int × α)) (k : Int) (z : α) : last (l ++ m) k z = last m k (last l k z) := by
  unfold last
  rw [List.foldl_append]
theorem last_one (l : List (Int × α)) (w : Int × α) (k : Int) (z : α) : last (l ++ [w]) k z = if w.1 = k then w.2 else last l k z := by
  rw [last_append]; rfl
theorem last_take {l : List (Int × α)} {j : Nat} (hj : j < l.length) (k : Int) (z : α) : last (l.take (j + 1)) k z = if l[j].1 = k then l[j].2 else last (l.take j) k z := by
  rw [List.take_succ_eq_append_getElem hj, last_one]
theorem last_or (l : List (Int × α)) (k : Int) (z : α) : last l k z = z ∨ ∃ w ∈ l, w.1 = k ∧ w.2 = last l k z := by
  induction l generalizing z with
  | nil => exact .inl rfl
  | cons w l ih =>
    rw [last_cons]
    rcases ih (if w.1 = k then w.2 else z) with h | ⟨v, hv, h1, h2⟩
    · rw [h]
      by_cases e : w.1 = k
      · rw [if_pos e]
        exact .inr ⟨w, List.mem_cons_self, e, rfl⟩
      · rw [if_neg e]
        exact .inl rfl
    · exact .inr ⟨v, List.mem_cons_of_mem _ hv, h1, h2⟩
theorem last_none {l : List (Int × α)} {k : Int} (h : ∀ w ∈ l, w.1 ≠ k) (z : α) : last l k z = z := by
  rcases last_or l k z with e | ⟨w, hw, h1, -⟩
  · exact e
  · exact absurd h1 (h w hw)
/-- Whatever a sector was: a property that it had and that all writes have. -/
theorem last_all {P : α → Prop} {l : List (Int × α)} (h : ∀ w ∈ l, P w.2) (k : Int) {z : α} (hz : P z) : P (last l k z) := by
  rcases last_or l k z with e | ⟨w, hw, -, h2⟩
  · rw [e]; exact hz
  · rw [← h2]; exact h w hw

/-- The chosen ones of a list: yes or no for each, in order; no, where it isn't told. -/
def pick {β : Type} : List β → List Bool → List β
  | [], _ => []
  | _ :: _, [] => []
  | b :: l, true :: c => b :: pick l c
  | _ :: l, false :: c => pick l c
theorem pick_nil {β : Type} (l : List β) : pick l [] = [] := by cases l <;> rfl
theorem pick_mem {β : Type} {l : List β} {c : List Bool} {b : β} (h : b ∈ pick l c) : b ∈ l := by
  induction l generalizing c with
  | nil => cases c <;> simp [pick] at h
  | cons x l ih =>
    cases c with
    | nil => simp [pick] at h
    | cons t c =>
      cases t with
      | true =>
        rcases List.mem_cons.1 h with rfl | h
        · exact List.mem_cons_self
        · exact List.mem_cons_of_mem _ (ih h)
      | false => exact List.mem_cons_of_mem _ (ih h)
theorem pick_all {β : Type} {l : List β} {n : Nat} (h : l.length ≤ n) : pick l (List.replicate n true) = l := by
  induction l generalizing n with
  | nil => cases n <;> rfl
  | cons x l ih =>
    cases n with
    | zero => simp at h
    | succ n =>
      rw [List.replicate_succ]
      show x :: pick l (List.replicate n true) = _
      rw [ih (by simpa using h)]
theorem pick_length {β : Type} (l : List β) (c : List Bool) : (pick l c).length ≤ l.length := by
  induction l generalizing c with
  | nil => cases c <;> exact Nat.le_refl _
  | cons x l ih =>
    cases c with
    | nil => exact Nat.zero_le _
    | cons t c =>
      cases t with
      | true => exact Nat.succ_le_succ (ih c)
      | false => exact Nat.le_succ_of_le (ih c)
theorem pick_append {β : Type} (l m : List β) (c : List Bool) : pick (l ++ m) c = pick l c ++ pick m (c.drop l.length) := by
  induction l generalizing c with
  | nil => cases c <;> rfl
  | cons x l ih =>
    cases c with
    | nil => show ([] : List β) = [] ++ pick m (List.drop _ []); rw [List.drop_nil, pick_nil]; rfl
    | cons t c =>
      cases t with
      | true => show x :: pick (l ++ m) c = x :: pick l c ++ _; rw [ih]; rfl
      | false => exact ih c
/-- One more of the list is looked at (the loops of a loss go so). -/
theorem pick_take {β : Type} {l : List β} {j : Nat} (hj : j < l.length) (c : List Bool) : pick (l.take (j + 1)) c = pick (l.take j) c ++ if c.getD j false = true then [l[j]] else [] := by
  have hl : (l.take j).length = j := by rw [List.length_take]; omega
  rw [List.take_succ_eq_append_getElem hj, pick_append, hl]
  congr 1
  by_cases h : j < c.length
  · rw [List.drop_eq_getElem_cons h, List.getD_eq_getElem?_getD, List.getElem?_eq_getElem h]
    cases c[j] <;> simp [pick]
  · rw [List.drop_eq_nil_of_le (by omega), pick_nil, if_neg]
    rw [List.getD_eq_getElem?_getD, List.getElem?_eq_none (by omega)]
    decide

/-- A tray: what is kept and what lies in the cache, in the order of the writes; how many steps are left (below 0: no end); is it dark? -/
structure Tray (α : Type) where
  kept : List (Int × α)
  cache : List (Int × α)
  left : Int
  dark : Bool
namespace Tray
def fresh : Tray α := ⟨[], [], -1, false⟩
def read (z : α) (t : Tray α) (k : Int) : α := last (t.kept ++ t.cache) k z
def was (z : α) (t : Tray α) (k : Int) : α := last t.kept k z
/-- A step, if there is one left. -/
def dim (t : Tray α) : Tray α := { t with dark := true }
def less (t : Tray α) : Tray α := { t with left := if 0 < t.left then t.left - 1 else t.left }
def put (t : Tray α) (k : Int) (b : α) : Tray α := if t.left = 0 then t.dim else { t.less with cache := t.cache ++ [(k, b)] }
def flush (t : Tray α) : Tray α := if t.left = 0 then t.dim else { t.less with kept := t.kept ++ t.cache, cache := [] }
def power (t : Tray α) (n : Int) : Tray α := { t with left := n, dark := false }
def lose (t : Tray α) (c : List Bool) : Tray α := ⟨t.kept ++ pick t.cache c, [], -1, false⟩

theorem read_is (z : α) (t : Tray α) (k : Int) : t.read z k = last t.cache k (t.was z k) := last_append _ _ _ _
theorem read_lose (z : α) (t : Tray α) (c : List Bool) (k : Int) : (t.lose c).read z k = last (pick t.cache c) k (t.was z k) := by
  unfold read lose was
  rw [List.append_nil, last_append]
/-- Behind any loss a sector is what it was flushed as, or one of the writes of the cache. -/
theorem lose_or (z : α) (t : Tray α) (c : List Bool) (k : Int) : (t.lose c).read z k = t.was z k ∨ ∃ w ∈ t.cache, w.1 = k ∧ w.2 = (t.lose c).read z k := by
  rw [read_lose]
  rcases last_or (pick t.cache c) k (t.was z k) with h | ⟨w, hw, h1, h2⟩
  · exact .inl h
  · exact .inr ⟨w, pick_mem hw, h1, h2⟩
theorem lose_all (z : α) (t : Tray α) {n : Nat} (h : t.cache.length ≤ n) (k : Int) : (t.lose (List.replicate n true)).read z k = t.read z k := by
  rw [read_lose, pick_all h, read_is]
theorem lose_none (z : α) (t : Tray α) (k : Int) : (t.lose []).read z k = t.was z k := by
  rw [read_lose, pick_nil]; rfl
theorem lose_twice (t : Tray α) (c d : List Bool) : (t.lose c).lose d = t.lose c := by
  have e : pick ([] : List (Int × α)) d = [] := by cases d <;> rfl
  unfold lose
  rw [e, List.append_nil]
theorem flush_lose (z : α) {t : Tray α} (h : t.left ≠ 0) (c : List Bool) (k : Int) : (t.flush.lose c).read z k = t.flush.read z k := by
  have e : pick ([] : List (Int × α)) c = [] := by cases c <;> rfl
  rw [read_lose]
  unfold flush
  rw [if_neg h]
  show last (pick [] c) k _ = _
  rw [e]
  unfold read was
  rw [List.append_nil]
  rfl
theorem flush_read (z : α) (t : Tray α) (k : Int) : t.flush.read z k = t.read z k := by
  unfold flush
  by_cases h : t.left = 0
  · rw [if_pos h]; rfl
  · rw [if_neg h]; unfold read; rw [List.append_nil]
theorem flush_was (z : α) {t : Tray α} (h : t.left ≠ 0) (k : Int) : t.flush.was z k = t.read z k := by
  unfold flush
  rw [if_neg h]; rfl
theorem put_read (z : α) {t : Tray α} (h : t.left ≠ 0) (a k : Int) (b : α) : (t.put a b).read z k = if a = k then b else t.read z k := by
  unfold put
  rw [if_neg h]
  unfold read
  show last (t.kept ++ (t.cache ++ [(a, b)])) k z = _
  rw [← List.append_assoc, last_one]
theorem put_was (z : α) (t : Tray α) (a k : Int) (b : α) : (t.put a b).was z k = t.was z k := by
  unfold put
  split <;> rfl
/-- Without an end of power: it stays so. -/
theorem put_left {t : Tray α} (h : t.left = -1) (a : Int) (b : α) : (t.put a b).left = -1 := by
  unfold put
  rw [if_neg (by omega)]
  show (if 0 < t.left then t.left - 1 else t.left) = -1
  rw [if_neg (by omega)]; exact h
theorem flush_left {t : Tray α} (h : t.left = -1) : t.flush.left = -1 := by
  unfold flush
  rw [if_neg (by omega)]
  show (if 0 < t.left then t.left - 1 else t.left) = -1
  rw [if_neg (by omega)]; exact h
/-- With a power: one fewer, none below. -/
theorem put_steps {t : Tray α} (h : 0 ≤ t.left) (a : Int) (b : α) : (t.put a b).left = max (t.left - 1) 0 ∧ (t.put a b).dark = (decide (t.left = 0) || t.dark) := by
  unfold put
  by_cases e : t.left = 0
  · rw [if_pos e]
    refine ⟨?_, ?_⟩
    · show t.left = _
      omega
    · simp [dim, e]
  · rw [if_neg e]
    refine ⟨?_, ?_⟩
    · show (if 0 < t.left then t.left - 1 else t.left) = _
      rw [if_pos (by omega)]; omega
    · simp [less, e]
theorem flush_steps {t : Tray α} (h : 0 ≤ t.left) : t.flush.left = max (t.left - 1) 0 ∧ t.flush.dark = (decide (t.left = 0) || t.dark) := by
  unfold flush
  by_cases e : t.left = 0
  · rw [if_pos e]
    refine ⟨?_, ?_⟩
    · show t.left = _
      omega
    · simp [dim, e]
  · rw [if_neg e]
    refine ⟨?_, ?_⟩
    · show (if 0 < t.left then t.left - 1 else t.left) = _
      rw [if_pos (by omega)]; omega
    · simp [less, e]
end Tray

/-- A program that keeps the sectors themselves: a row of sectors that holds what the writes of a list make of it. -/
def Disk (n : Nat) (d : List α) (l : List (Int × α)) (z : α) : Prop := d.length = n ∧ ∀ (k : Nat) (h : k < d.length), d[k] = last l (k : Int) z
theorem disk_nil (n : Nat) (z : α) : Disk n (List.replicate n z) [] z := ⟨List.length_replicate, fun k h => by rw [List.getElem_replicate]; rfl⟩
theorem disk_put {n : Nat} {d : List α} {l : List (Int × α)} {z : α} (h : Disk n d l z) (a : Nat) (b : α) : Disk n (d.set a b) (l ++ [((a : Int), b)]) z := by
  refine ⟨by rw [List.length_set]; exact h.1, fun k hk => ?_⟩
  rw [List.length_set] at hk
  rw [List.getElem_set, last_one]
  by_cases e : a = k
  · subst e
    rw [if_pos rfl, if_pos rfl]
  · rw [if_neg e, if_neg (show ¬ ((a : Int), b).1 = (k : Int) from fun c => e (by exact Int.ofNat.inj c))]
    exact h.2 k hk
end Ta
end Go.Proofs.Ytkfmmdiflbnhgaa

namespace Go.Proofs.Ytkfmmdiflbnhgaa
set_option maxRecDepth 100000
open Go.RowKit
namespace Ta

abbrev tTr : TypeId := 37
/-- The document's tray as a value: how many sectors; its two lists; how many steps are left; is it dark? -/
def trV (n : Int) (k c : Value) (l : Int) (d : Bool) : Value := .agg #[.int .i64 n, k, c, .int .i64 l, .bool d]
/-- All five cells of a box are stored. -/
def st5 (x : World) (R : Nat) (a b c d e : Value) : World := ((((x.setCell ⟨R, 0, none⟩ a).setCell ⟨R, 1, none⟩ b).setCell ⟨R, 2, none⟩ c).setCell ⟨R, 3, none⟩ d).setCell ⟨R, 4, none⟩ e
/-- A box of five cells. -/
def C5 (R : Nat) (T : TypeId) (a b c d e : Value) (x : World) : Prop := x.heap[R]? = some (.cells #[a, b, c, d, e] T (0, 0))
section
variable {R : Nat} {T : TypeId} {a b c d e : Value} {x y : World}
theorem C5.cells (h : C5 R T a b c d e x) : x.cell? ⟨R, 0, none⟩ = some a ∧ x.cell? ⟨R, 1, none⟩ = some b ∧ x.cell? ⟨R, 2, none⟩ = some c ∧ x.cell? ⟨R, 3, none⟩ = some d ∧ x.cell? ⟨R, 4, none⟩ = some e := by
  refine ⟨?_, ?_, ?_, ?_, ?_⟩ <;> (rw [Lib.cell_of_heap h]; rfl)
theorem C5.free (h : C5 R T a b c d e x) : x.frozen? ⟨R, 0, none⟩ = false ∧ x.frozen? ⟨R, 1, none⟩ = false ∧ x.frozen? ⟨R, 2, none⟩ = false ∧ x.frozen? ⟨R, 3, none⟩ = false ∧ x.frozen? ⟨R, 4, none⟩ = false :=
  ⟨Lib.frozen_of_heap h 0, Lib.frozen_of_heap h 1, Lib.frozen_of_heap h 2, Lib.frozen_of_heap h 3, Lib.frozen_of_heap h 4⟩
end

/-- The box that a call hands back, behind its own. -/
theorem two5 (w : World) (o : Obj) (T : TypeId) (a b c d e : Value) : C5 (w.heap.size + 1) T a b c d e ((w.alloc o).alloc (.cells #[a, b, c, d, e] T)) ∧ Below w.heap.size w ((w.alloc o).alloc (.cells #[a, b, c, d, e] T)) := by
  have hs : (w.alloc o).heap.size = w.heap.size + 1 := by simp
  refine ⟨?_, ((Below.refl _ _).alloc (Nat.le_refl _) _).alloc (by omega) _⟩
  have := heap_alloc_new (w.alloc o) (.cells #[a, b, c, d, e] T)
  rw [hs] at this
  exact this

set_option maxHeartbeats 2000000 in
set_option maxRecDepth 100000 in
/-- A tray, and whether there can be so many sectors. -/
theorem rnew_any (n : Int) (ok : Bool) (hok : ok = decide (4 ≤ n ∧ n ≤ 4096)) (w : World) : Calls Try.prog 18 #[.int .i64 n] w fun e x => e = .returned (.tuple #[trV n (.slice none 0 0) (.slice none 0 0) (-1) false, .bool ok]) ∧ Below w.heap.size w x := by
  have HK := Lib.hid hok
  clear hok
  have h0 : C5 w.heap.size tTr (.int .i64 0) (.slice none 0 0) (.slice none 0 0) (.int .i64 0) (.bool false) (w.alloc (.cells #[.int .i64 0, .slice none 0 0, .slice none 0 0, .int .i64 0, .bool false] tTr)) := heap_alloc_new w _
  obtain ⟨c0, c1, c2, c3, c4⟩ := h0.cells
  obtain ⟨f0, f1, f2, f3, f4⟩ := h0.free
  have h1 : C5 w.heap.size tTr (.int .i64 n) (.slice none 0 0) (.slice none 0 0) (.int .i64 (-1)) (.bool false) (w.alloc (.cells #[.int .i64 n, .slice none 0 0, .slice none 0 0, .int .i64 (-1), .bool false] tTr)) := heap_alloc_new w _
  obtain ⟨g0, g1, g2, g3, g4⟩ := h1.cells
  have hb : Below w.heap.size w (w.alloc (.cells #[.int .i64 n, .slice none 0 0, .slice none 0 0, .int .i64 (-1), .bool false] tTr)) := (Below.refl _ _).alloc (Nat.le_refl _) _
  clear h0 h1
  by_cases h1 : 4 ≤ n
  · go_enter Try.func18, Try.ntmps18
    go_wp2_with fail
    refine bodyPost_ret (v := .tuple #[trV n (.slice none 0 0) (.slice none 0 0) (-1) false, .bool (decide (n ≤ 4096))]) (by simp [trV, results, Try.results18, go_sem, g0, g1, g2, g3, g4]) rfl ⟨?_, hb⟩
    rw [HK.out]; simp [h1]
  · go_enter Try.func18, Try.ntmps18
    go_wp2_with fail
    refine bodyPost_ret (v := .tuple #[trV n (.slice none 0 0) (.slice none 0 0) (-1) false, .bool false]) (by simp [trV, results, Try.results18, go_sem, g0, g1, g2, g3, g4]) rfl ⟨?_, hb⟩
    rw [HK.out]; simp; omega

set_option maxHeartbeats 4000000 in
set_option maxRecDepth 100000 in
/-- A step: one fewer, or it is dark. -/
theorem rstep_any (n : Int) (k c : Value) (hk : ∃ a m q, k = .slice a m q) (hc : ∃ a m q, c = .slice a m q) (l : Int) (hl : -1 ≤ l ∧ l ≤ 1099511627776) (d : Bool) (w : World) :
    Calls Try.prog 61 #[trV n k c l d] w fun e x => e = .returned (.tuple #[if l = 0 then trV n k c l true else trV n k c (if 0 < l then l - 1 else l) d, .bool (decide (l ≠ 0))]) ∧ Below w.heap.size w x := by
  obtain ⟨a, m, q, rfl⟩ := hk
  obtain ⟨b, o, r, rfl⟩ := hc
  unfold trV
  have wr : 0 < l → IntKind.wrap .i64 (l - 1) = l - 1 := fun _ => by rw [IntKind.wrap_i64] <;> omega
  by_cases h0 : l = 0
  · subst h0
    obtain ⟨hr, hb⟩ := two5 w (.cells #[.int .i64 n, .slice a m q, .slice b o r, .int .i64 0, .bool true] tTr) tTr (.int .i64 n) (.slice a m q) (.slice b o r) (.int .i64 0) (.bool true)
    obtain ⟨g0, g1, g2, g3, g4⟩ := hr.cells
    go_enter Try.func61, Try.ntmps61
    go_wp2_with fail
    refine bodyPost_ret (v := .tuple #[.agg #[.int .i64 n, .slice a m q, .slice b o r, .int .i64 0, .bool true], .bool false]) (by simp [results, Try.results61, go_sem, g0, g1, g2, g3, g4]) rfl ⟨?_, hb⟩
    rfl
  · have e0 : (l == 0) = false := by simp [h0]
    by_cases h1 : 0 < l
    · have w1 := wr h1
      obtain ⟨hr, hb⟩ := two5 w (.cells #[.int .i64 n, .slice a m q, .slice b o r, .int .i64 (l - 1), .bool d] tTr) tTr (.int .i64 n) (.slice a m q) (.slice b o r) (.int .i64 (l - 1)) (.bool d)
      obtain ⟨g0, g1, g2, g3, g4⟩ := hr.cells
      go_enter Try.func61, Try.ntmps61
      go_wp2_with fail
      refine bodyPost_ret (v := .tuple #[.agg #[.int .i64 n, .slice a m q, .slice b o r, .int .i64 (l - 1), .bool d], .bool true]) (by simp [results, Try.results61, go_sem, g0, g1, g2, g3, g4]) rfl ⟨?_, hb⟩
      rfl
    · obtain ⟨hr, hb⟩ := two5 w (.cells #[.int .i64 n, .slice a m q, .slice b o r, .int .i64 l, .bool d] tTr) tTr (.int .i64 n) (.slice a m q) (.slice b o r) (.int .i64 l) (.bool d)
      obtain ⟨g0, g1, g2, g3, g4⟩ := hr.cells
      go_enter Try.func61, Try.ntmps61
      go_wp2_with fail
      refine bodyPost_ret (v := .tuple #[.agg #[.int .i64 n, .slice a m q, .slice b o r, .int .i64 l, .bool d], .bool true]) (by simp [results, Try.results61, go_sem, g0, g1, g2, g3, g4]) rfl ⟨?_, hb⟩
      rfl

set_option maxHeartbeats 4000000 in
set_option maxRecDepth 100000 in
/-- A power is told. -/
theorem rpower_any (n : Int) (k c : Value) (hk : ∃ a m q, k = .slice a m q) (hc : ∃ a m q, c = .slice a m q) (l z : Int) (d : Bool) (ok : Bool) (hok : ok = decide (0 ≤ z ∧ z ≤ 1099511627776)) (w : World) :
    Calls Try.prog 27 #[trV n k c l d, .int .i64 z] w fun e x => e = .returned (.tuple #[if ok = true then trV n k c z false else trV n k c l d, .int .i64 (if ok = true then 0 else 1)]) ∧ Below w.heap.size w x := by
  obtain ⟨a, m, q, rfl⟩ := hk
  obtain ⟨b, o, r, rfl⟩ := hc
  unfold trV
  by_cases h0 : z < 0
  · obtain rfl : ok = false := by rw [hok]; simp; omega
    clear hok
    obtain ⟨hr, hb⟩ := two5 w (.cells #[.int .i64 n, .slice a m q, .slice b o r, .int .i64 l, .bool d] tTr) tTr (.int .i64 n) (.slice a m q) (.slice b o r) (.int .i64 l) (.bool d)
    obtain ⟨g0, g1, g2, g3, g4⟩ := hr.cells
    go_enter Try.func27, Try.ntmps27
    go_wp2_with fail
    refine bodyPost_ret (v := .tuple #[.agg #[.int .i64 n, .slice a m q, .slice b o r, .int .i64 l, .bool d], .int .i64 1]) (by simp [results, Try.results27, go_sem, g0, g1, g2, g3, g4]) rfl ⟨?_, hb⟩
    rfl
  · by_cases h1 : 1099511627776 < z
    · obtain rfl : ok = false := by rw [hok]; simp; omega
      clear hok
      obtain ⟨hr, hb⟩ := two5 w (.cells #[.int .i64 n, .slice a m q, .slice b o r, .int .i64 l, .bool d] tTr) tTr (.int .i64 n) (.slice a m q) (.slice b o r) (.int .i64 l) (.bool d)
      obtain ⟨g0, g1, g2, g3, g4⟩ := hr.cells
      go_enter Try.func27, Try.ntmps27
      go_wp2_with fail
      refine bodyPost_ret (v := .tuple #[.agg #[.int .i64 n, .slice a m q, .slice b o r, .int .i64 l, .bool d], .int .i64 1]) (by simp [results, Try.results27, go_sem, g0, g1, g2, g3, g4]) rfl ⟨?_, hb⟩
      rfl
    · obtain rfl : ok = true := by rw [hok]; simp; omega
      clear hok
      obtain ⟨hr, hb⟩ := two5 w (.cells #[.int .i64 n, .slice a m q, .slice b o r, .int .i64 z, .bool false] tTr) tTr (.int .i64 n) (.slice a m q) (.slice b o r) (.int .i64 z) (.bool false)
      obtain ⟨g0, g1, g2, g3, g4⟩ := hr.cells
      go_enter Try.func27, Try.ntmps27
      go_wp2_with fail
      refine bodyPost_ret (v := .tuple #[.agg #[.int .i64 n, .slice a m q, .slice b o r, .int .i64 z, .bool false], .int .i64 0]) (by simp [results, Try.results27, go_sem, g0, g1, g2, g3, g4]) rfl ⟨?_, hb⟩
      rfl
end Ta
end Go.Proofs.Ytkfmmdiflbnhgaa

namespace Go.Proofs.Ytkfmmdiflbnhgaa
set_option maxRecDepth 100000
open Go.RowKit
namespace Ta

abbrev tSec : TypeId := 64
/-- A sector's cells. -/
def sec (b : List UInt8) : Array Value := (Lib.byteCells b).toArray
/-- A sector of noughts. -/
def nul : List UInt8 := List.replicate 128 0
/-- Writes that lie in memory: the sector's number, its bytes. -/
structure Wrs (w : World) (ao : Option Addr) (l : List (Int × List UInt8)) : Prop where
  big : l.length ≤ 9223372036854775807
  len : ∀ p ∈ l, p.2.length = 128
  row : l ≠ [] → ∃ g o, ao = some ⟨g, o, none⟩ ∧ ∀ (i : Nat) (h : i < l.length), w.cell? ⟨g, o + i * 129, none⟩ = some (.int .i64 l[i].1) ∧ w.rangeAt g (o + i * 129 + 1) (Lib.byteCells l[i].2)
section
variable {w x : World} {ao : Option Addr} {l : List (Int × List UInt8)}
theorem Wrs.below (h : Wrs w ao l) (hb : Below w.heap.size w x) : Wrs x ao l := by
  refine ⟨h.big, h.len, fun hn => ?_⟩
  obtain ⟨g, o, e, hc⟩ := h.row hn
  refine ⟨g, o, e, fun i hi => ?_⟩
  obtain ⟨h1, h2⟩ := hc i hi
  refine ⟨(hb.cell (World.block_lt_of_cell? w _ h1)).trans h1, fun j v hj => ?_⟩
  have h3 := h2 j v hj
  exact (hb.cell (World.block_lt_of_cell? w _ h3)).trans h3
theorem Wrs.at (h : Wrs w ao l) (cap : Nat) {i : Nat} (hi : i < l.length) :
    ∃ g q, (∀ W, (Instr.indexAt 35 (.slice ao l.length cap) (.int .i64 (i : Int))).run Try.prog W = .ok (.pointer (some ⟨g, q, none⟩)) W) ∧ w.cell? ⟨g, q, none⟩ = some (.int .i64 l[i].1) ∧ w.rangeAt g (q + 1) (Lib.byteCells l[i].2) := by
  obtain ⟨g, o, rfl, hrow⟩ := h.row (fun e => by rw [e] at hi; simp at hi)
  obtain ⟨h1, h2⟩ := hrow i hi
  refine ⟨g, o + i * 129, fun W => ?_, h1, h2⟩
  have hz : ∀ w, (sizeOf (Try.prog.elem 35)).run Try.prog w = .ok 129 w := fun w => by kernel_rfl
  rw [run_indexAt_slice W _ _ _ _ _ _ Try.underlying35, if_pos ⟨by omega, by omega⟩, hz]
  have e : ((i : Int)).toNat = i := by omega
  simp only [Result.andThen_ok, e, Addr.add_lit]
end
theorem sec_size {b : List UInt8} (h : b.length = 128) : (sec b).size = 128 := by
  rw [sec, List.size_toArray, Lib.byteCells_length, h]
theorem sec_one (b : List UInt8) : (sec b).all (·.oneCell') = true := by
  rw [Array.all_eq_true_iff_forall_mem]
  intro v hv
  simp only [sec, Lib.byteCells, List.mem_toArray, List.mem_map] at hv
  obtain ⟨u, -, rfl⟩ := hv
  rfl
theorem last_len {l : List (Int × List UInt8)} (h : ∀ p ∈ l, p.2.length = 128) (k : Int) {z : List UInt8} (hz : z.length = 128) : (last l k z).length = 128 := last_all (P := fun b : List UInt8 => b.length = 128) h k hz
theorem info_sec : (Try.prog.info? tSec).map (·.size) = some 128 := by kernel_rfl
theorem zero_sec (W : World) : (zeroValue tSec).run Try.prog W = .ok (.agg (sec nul)) W := by kernel_rfl
theorem store_sec (W : World) (b : Nat) (c c' : List UInt8) (hb : b = W.heap.size) (hc : c.length = 128) (hc' : c'.length = 128) : (storeCells ⟨b, 0, none⟩ (sec c').toList 0).run Try.prog (W.alloc (.cells (sec c) tSec)) = .ok () (W.alloc (.cells (sec c') tSec)) := by
  subst hb
  exact run_storeCells_new W tSec _ _ (by rw [sec_size hc']; exact info_sec) (by rw [sec_size hc, sec_size hc']) (sec_one _)
theorem store_row (W : World) (g : Nat) (c : Array Value) (c' : List UInt8) (hs : c.size = (sec c').size) (h : W.heap[g]? = some (.cells c tSec (0, 0))) : (storeCells ⟨g, 0, none⟩ (sec c').toList 0).run Try.prog W = .ok () (W.setRow g (sec c')) := by
  have := run_storeCells_from (P := Try.prog) g tSec (sec c').toList 0 c W h (by simp; omega) (fun v hv => (Array.all_eq_true_iff_forall_mem.1 (sec_one c')) v (by simpa using hv))
  simpa using this
theorem load_sec (W : World) (g q : Nat) (c : List UInt8) (hc : c.length = 128) (h : W.rangeAt g q (Lib.byteCells c)) : (loadCellsFrom ⟨g, q, none⟩ 0 128 #[]).run Try.prog W = .ok (sec c) W := by
  have := run_loadCells_list (P := Try.prog) W ⟨g, q, none⟩ (Lib.byteCells c) (fun j v hv => by rw [Addr.add_mid]; exact h j v hv)
  rw [Lib.byteCells_length, hc] at this
  exact this

set_option maxHeartbeats 4000000 in
set_option maxRecDepth 100000 in
theorem rread_any (n : Int) (ao bo : Option Addr) (q r : Nat) (kl cl : List (Int × List UInt8)) (l : Int) (d : Bool) (k : Int) (w : World) (hk : Wrs w ao kl) (hc : Wrs w bo cl) :
    Calls Try.prog 34 #[trV n (.slice ao kl.length q) (.slice bo cl.length r) l d, .int .i64 k] w fun e x => e = .returned (.agg (sec (last (kl ++ cl) k nul))) ∧ Below w.heap.size w x := by
  unfold trV
  have hbk := hk.big
  have hbc := hc.big
  have hz := zero_sec
  have hnl : nul.length = 128 := rfl
  have hsz := @sec_size
  have HS := Lib.hid store_sec
  have hsc := fun W b hb => store_sec W b nul nul hb rfl rfl
  go_enter Try.func34, Try.ntmps34
  have hs0 : (sec nul).size = 128 := rfl
  go_upto_region 2 with fail
  obtain ⟨X, hX⟩ : ∃ X, X = (w.alloc (.cells #[.int .i64 n, .slice ao kl.length q, .slice bo cl.length r, .int .i64 l, .bool d] tTr)).alloc (.cells (sec nul) tSec) := ⟨_, rfl⟩
  rw [← hX]
  have H0 := Lib.hid (show C5 w.heap.size tTr (.int .i64 n) (.slice ao kl.length q) (.slice bo cl.length r) (.int .i64 l) (.bool d) X from by
    rw [hX]
    exact ((Below.refl _ _).alloc (Nat.le_refl _) _ : Below (w.alloc _).heap.size (w.alloc _) _).block w.heap.size (by simp) |>.trans (heap_alloc_new w _))
  have HB := Lib.hid (show Below w.heap.size w X from by rw [hX]; exact ((Below.refl _ _).alloc (Nat.le_refl _) _).alloc (by simp) _)
  have HN := Lib.hid (show w.heap.size + 1 + 1 = X.heap.size from by rw [hX]; simp)
  have HA := Lib.hid (show ∀ b, C5 w.heap.size tTr (.int .i64 n) (.slice ao kl.length q) (.slice bo cl.length r) (.int .i64 l) (.bool d) (X.alloc (.cells (sec b) tSec)) ∧ Wrs (X.alloc (.cells (sec b) tSec)) ao kl ∧ Wrs (X.alloc (.cells (sec b) tSec)) bo cl ∧ Below w.heap.size w (X.alloc (.cells (sec b) tSec)) from fun b => by
    have h2 : Below X.heap.size X (X.alloc (.cells (sec b) tSec)) := (Below.refl _ _).alloc (Nat.le_refl _) _
    have h3 := HB.out.trans (h2.mono HB.out.size)
    exact ⟨(h2.block _ (by have := HN.out; omega)).trans H0.out, hk.below h3, hc.below h3, h3⟩)
  have HC := Lib.hid (show ∀ b, (X.alloc (.cells (sec b) tSec)).heap[w.heap.size + 1]? = some (.cells (sec nul) tSec (0, 0)) ∧ (X.alloc (.cells (sec b) tSec)).heap[w.heap.size + 1 + 1]? = some (.cells (sec b) tSec (0, 0)) from fun b => by
    have h2 : Below X.heap.size X (X.alloc (.cells (sec b) tSec)) := (Below.refl _ _).alloc (Nat.le_refl _) _
    have h4 := heap_alloc_new X (.cells (sec b) tSec)
    refine ⟨(h2.block _ (by have := HN.out; omega)).trans ?_, by rw [HN.out]; exact h4⟩
    have h5 := heap_alloc_new (w.alloc (.cells #[.int .i64 n, .slice ao kl.length q, .slice bo cl.length r, .int .i64 l, .bool d] tTr)) (.cells (sec nul) tSec)
    rw [hX]
    simpa using h5)
  have HL := Lib.hid (And.intro hk.len hc.len)
  clear hX H0 HB hk hc hsc hs0 hz hsz
  obtain ⟨c0, c1, c2, c3, c4⟩ := (HA.out nul).1.cells
  go_wp2_with fail
  clear c0 c1 c2 c3 c4
  go_loopw [12] (fun i wr => ∃ j : Nat, j ≤ kl.length ∧ i = .int .i64 j ∧ wr = X.alloc (.cells (sec (last (kl.take j) k nul)) tSec)) (fun i _ => kl.length - (intOf i).toNat)
  case atStart => exact ⟨0, by omega, rfl, rfl⟩
  case round =>
    obtain ⟨j, hj, rfl, rfl⟩ := hrel
    by_cases hlt : j < kl.length
    · obtain ⟨h1, h2, h3, -⟩ := HA.out (last (kl.take j) k nul)
      obtain ⟨c0, c1, c2, c3, c4⟩ := h1.cells
      obtain ⟨g, o, hix, a0, ar⟩ := h2.at q hlt
      have hb8 : (last (kl.take j) k nul).length = 128 := last_len (fun p hp => HL.out.1 p (List.mem_of_mem_take hp)) k hnl
      have hx8 : kl[j].2.length = 128 := HL.out.1 _ (List.getElem_mem hlt)
      have hnx := last_take hlt k nul
      have hst := HS.out X (w.heap.size + 1 + 1) (last (kl.take j) k nul) kl[j].2 HN.out hb8 hx8
      have HR := Lib.hid ar
      have H8 := Lib.hid hx8
      have hs8 := sec_size hx8
      clear h1 h2 h3 ar hb8 hx8
      have HX := Lib.hid hnx
      clear hnx
      by_cases e : kl[j].1 = k
      · have e1 : (kl[j].1 == k) = true := by simp [e]
        rw [if_pos e] at HX
        clear e
        go_wp2_with fail
        refine wp_load_mid 64 (.tmp 27) rfl g (o + 1) rfl (Lib.byteCells kl[j].2) _ HR.out Try.underlying64 rfl (by rw [Lib.byteCells_length, H8.out]; exact info_sec) ?_
        rw [show (Lib.byteCells kl[j].2).toArray = sec kl[j].2 from rfl]
        go_wp2_with fail
        go_roundw
        case rel => exact ⟨j + 1, by omega, by go_num, by rw [HX.out]⟩
        case measure => simp [intOf]; omega
      · have e1 : (kl[j].1 == k) = false := by simp [e]
        rw [if_neg e] at HX
        clear e
        go_wp2_with fail
        go_roundw
        case rel => exact ⟨j + 1, by omega, by go_num, by rw [HX.out]⟩
        case measure => simp [intOf]; omega
    · have hj' : j = kl.length := by omega
      subst hj'
      rw [List.take_length]
      obtain ⟨h1, -, -, -⟩ := HA.out (last kl k nul)
      obtain ⟨c0, c1, c2, c3, c4⟩ := h1.cells
      clear h1
      go_wp2_with fail
      clear c0 c1 c2 c3 c4
      go_loopw [33] (fun i wr => ∃ j : Nat, j ≤ cl.length ∧ i = .int .i64 j ∧ wr = X.alloc (.cells (sec (last (cl.take j) k (last kl k nul))) tSec)) (fun i _ => cl.length - (intOf i).toNat)
      case atStart => exact ⟨0, by omega, rfl, rfl⟩
      case round =>
        obtain ⟨j, hj, rfl, rfl⟩ := hrel
        by_cases hlt : j < cl.length
        · obtain ⟨h1, h2, h3, -⟩ := HA.out (last (cl.take j) k (last kl k nul))
          obtain ⟨c0, c1, c2, c3, c4⟩ := h1.cells
          obtain ⟨g, o, hix, a0, ar⟩ := h3.at r hlt
          have hb8 : (last (cl.take j) k (last kl k nul)).length = 128 := last_len (fun p hp => HL.out.2 p (List.mem_of_mem_take hp)) k (last_len HL.out.1 k hnl)
          have hx8 : cl[j].2.length = 128 := HL.out.2 _ (List.getElem_mem hlt)
          have hnx := last_take hlt k (last kl k nul)
          have hst := HS.out X (w.heap.size + 1 + 1) (last (cl.take j) k (last kl k nul)) cl[j].2 HN.out hb8 hx8
          have HR := Lib.hid ar
          have H8 := Lib.hid hx8
          have hs8 := sec_size hx8
          clear h1 h2 h3 ar hb8 hx8
          have HX := Lib.hid hnx
          clear hnx
          by_cases e : cl[j].1 = k
          · have e1 : (cl[j].1 == k) = true := by simp [e]
            rw [if_pos e] at HX
            clear e
            go_wp2_with fail
            refine wp_load_mid 64 (.tmp 48) rfl g (o + 1) rfl (Lib.byteCells cl[j].2) _ HR.out Try.underlying64 rfl (by rw [Lib.byteCells_length, H8.out]; exact info_sec) ?_
            rw [show (Lib.byteCells cl[j].2).toArray = sec cl[j].2 from rfl]
            go_wp2_with fail
            go_roundw
            case rel => exact ⟨j + 1, by omega, by go_num, by rw [HX.out]⟩
            case measure => simp [intOf]; omega
          · have e1 : (cl[j].1 == k) = false := by simp [e]
            rw [if_neg e] at HX
            clear e
            go_wp2_with fail
            go_roundw
            case rel => exact ⟨j + 1, by omega, by go_num, by rw [HX.out]⟩
            case measure => simp [intOf]; omega
        · have hj' : j = cl.length := by omega
          subst hj'
          rw [List.take_length, ← last_append]
          obtain ⟨h1, -, -, hb⟩ := HA.out (last (kl ++ cl) k nul)
          obtain ⟨hc1, hc2⟩ := HC.out (last (kl ++ cl) k nul)
          obtain ⟨c0, c1, c2, c3, c4⟩ := h1.cells
          have h8 : (last (kl ++ cl) k nul).length = 128 := last_len (fun p hp => (List.mem_append.1 hp).elim (HL.out.1 p) (HL.out.2 p)) k hnl
          have hi : (Try.prog.info? tSec).map (·.size) = some (sec (last (kl ++ cl) k nul)).size := by rw [sec_size h8]; exact info_sec
          have h0 : (sec nul).size = (sec (last (kl ++ cl) k nul)).size := by rw [sec_size h8, sec_size hnl]
          have hs := setRow_heap _ (w.heap.size + 1) _ (sec (last (kl ++ cl) k nul)) _ _ hc1
          have hB := below_setRow hb (g := w.heap.size + 1) (by omega) (sec (last (kl ++ cl) k nul))
          have HE := Lib.hid (And.intro (And.intro hc1 hc2) (And.intro (And.intro hi h0) (And.intro hs hB)))
          clear h1 hb hc1 hc2 h8 hi h0 hs hB
          go_wp2_with fail
          obtain ⟨⟨hc1, hc2⟩, ⟨hi, h0⟩, hs, hB⟩ := HE.out
          refine wp_load_row tSec (.tmp 5) rfl (w.heap.size + 1 + 1) rfl tSec _ (0, 0) _ hc2 Try.underlying64 rfl hi ?_
          have hs8 : (sec (last (kl ++ cl) k nul)).size = 128 := h0.symm.trans (sec_size hnl)
          have hst := store_row _ _ _ _ h0 hc1
          have HI := Lib.hid hi
          clear hi h0 hc1 hc2
          go_wp2_with fail
          exact bodyPost_ret (v := .agg (sec (last (kl ++ cl) k nul))) (results_cell_row (p := 4) (ty := tSec) (by kernel_rfl) _ _ (w.heap.size + 1) tSec _ (0, 0) _ rfl hs Try.underlying64 rfl HI.out) rfl ⟨rfl, hB⟩
end Ta
end Go.Proofs.Ytkfmmdiflbnhgaa
