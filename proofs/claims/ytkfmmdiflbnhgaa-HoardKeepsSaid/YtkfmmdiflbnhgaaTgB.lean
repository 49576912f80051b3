/-
  Layer 12: the program's tray in memory: a box of six cells, two rows of sectors, a row of writes.
  Layer 12: the program's tray: what is asked of it: Sectors, Cached, Dark, has, step, Power.
  Layer 12: the program's tray: Read.
  Layer 12: the program's tray: Clone, keeping, New.
-/
import Derived.Test.YtkfmmdiflbnhgaaTgA
import Derived.Test.YtkfmmdiflbnhgaaInA
import Derived.Laws.MakeOwn
import Derived.Laws.OwnMore
import Derived.Great.BuildSlice
namespace Go.Proofs.Ytkfmmdiflbnhgaa
set_option maxRecDepth 100000
open Go.RowKit
namespace Ta
open Knot (Turns NewRow)
open Tr (IsElem append_rows own_turn own_below own_slice own_open addp)

abbrev tSe : TypeId := 115
abbrev tSs : TypeId := 100
abbrev tWr : TypeId := 117
abbrev tWs : TypeId := 111
abbrev tTy : TypeId := 113

/-! ### what stays -/
/-- What holds now, and whatever of the blocks in F turns. -/
def Stay (F : Nat → Prop) (w : World) (P : World → Prop) : Prop := ∀ x, Turns F w x → P x
section
variable {F G : Nat → Prop} {w x y : World} {P : World → Prop}
theorem Stay.now (h : Stay F w P) : P w := h w (Turns.refl F w)
theorem Stay.grow (h : Stay F w P) (ht : Turns F w y) (hG : ∀ k, k < w.heap.size → G k → F k) : Stay G y P := fun x hx => h x (ht.trans hx hG)
theorem Stay.turn (h : Stay F w P) (ht : Turns F w y) : Stay F y P := h.grow ht fun _ _ h => h
theorem Stay.below (h : Stay F w P) (hb : Below w.heap.size w y) : Stay F y P := h.turn (Turns.of_below hb)
/-- The blocks of F, and those that were made from w to x. -/
def Grow (F : Nat → Prop) (w x : World) (k : Nat) : Prop := F k ∨ (w.heap.size ≤ k ∧ k < x.heap.size)
theorem Stay.more (h : Stay F w P) (ht : Turns F w y) : Stay (Grow F w y) y P := h.grow ht fun k hk hg => hg.elim id fun h => by omega
/-- The blocks that were made from w to x. -/
def Made (w x : World) (k : Nat) : Prop := w.heap.size ≤ k ∧ k < x.heap.size
end

/-! ### rows -/
def setL (xs : List Value) (o : Nat) : List Value → List Value
  | [] => xs
  | v :: r => setL (xs.set o v) (o + 1) r
theorem setL_at : ∀ (vs xs : List Value) (o j : Nat), (setL xs o vs)[j]? = if o ≤ j ∧ j < o + vs.length ∧ j < xs.length then vs[j - o]? else xs[j]?
  | [], xs, o, j => by
    rw [setL, if_neg]
    simp only [List.length_nil]
    omega
  | v :: r, xs, o, j => by
    rw [setL, setL_at r (xs.set o v) (o + 1) j]
    simp only [List.length_set, List.length_cons, List.getElem?_set]
    by_cases h : o = j
    · subst h
      rw [if_neg (by omega), if_pos rfl]
      by_cases hl : o < xs.length
      · rw [if_pos hl, if_pos (by omega), Nat.sub_self]; rfl
      · rw [if_neg hl, if_neg (by omega), List.getElem?_eq_none (by omega)]
    · rw [if_neg h]
      by_cases hc : o + 1 ≤ j ∧ j < o + 1 + r.length ∧ j < xs.length
      · rw [if_pos hc, if_pos (by omega), show j - o = (j - (o + 1)) + 1 by omega, List.getElem?_cons_succ]
      · rw [if_neg hc, if_neg (by omega)]
theorem setL_len (vs : List Value) : ∀ (xs : List Value) (o : Nat), (setL xs o vs).length = xs.length := by
  induction vs with
  | nil => intro xs o; rfl
  | cons v r ih => intro xs o; rw [setL, ih, List.length_set]

theorem own_set {base size n cap g : Nat} {e : TypeId} : ∀ (vs : List Value) (o : Nat) {w : World} {xs : List Value}, w.ownsRow base e size (.slice (some ⟨g, 0, none⟩) n cap) n xs →
    (w.setCells g o vs).ownsRow base e size (.slice (some ⟨g, 0, none⟩) n cap) n (setL xs o vs) ∧ Turns (fun k => k = g) w (w.setCells g o vs)
  | [], o, w, xs, h => ⟨h, Turns.refl _ _⟩
  | v :: r, o, w, xs, h => by
    obtain ⟨h1, h2⟩ := h.stored o v
    obtain ⟨h3, h4⟩ := own_set r (o + 1) h1
    exact ⟨h3, (Turns.of_grown h2 fun k hk => (Option.some.inj hk).symm).trans h4 fun _ _ h => h⟩
theorem own_there {base size n cap g : Nat} {e : TypeId} {w : World} {xs : List Value} (h : w.ownsRow base e size (.slice (some ⟨g, 0, none⟩) n cap) n xs) {o m : Nat} (hm : o + m ≤ n * size) : w.there g o m := fun j hj => by
  have hl := h.1
  refine ⟨?_, h.frozenAt _⟩
  rw [h.cellAt (o + j) (by omega), List.getElem?_eq_getElem (by omega)]; rfl

/-- Sectors one behind the other. -/
def flat (D : List (List UInt8)) : List Value := D.flatMap Lib.byteCells
theorem flat_len {D : List (List UInt8)} (h : ∀ b ∈ D, b.length = 128) : (flat D).length = D.length * 128 := by
  induction D with
  | nil => rfl
  | cons b D ih =>
    have := h b List.mem_cons_self
    simp only [flat, List.flatMap_cons, List.length_append, Lib.byteCells_length, List.length_cons] at ih ⊢
    rw [ih fun x hx => h x (List.mem_cons_of_mem _ hx)]
    omega
theorem flat_at {D : List (List UInt8)} (h : ∀ b ∈ D, b.length = 128) {k : Nat} (hk : k < D.length) {j : Nat} (hj : j < 128) : (flat D)[k * 128 + j]? = (Lib.byteCells D[k])[j]? := by
  induction D generalizing k with
  | nil => simp at hk
  | cons b D ih =>
    have hb := h b List.mem_cons_self
    show (Lib.byteCells b ++ flat D)[_]? = _
    cases k with
    | zero =>
      rw [List.getElem?_append_left (by rw [Lib.byteCells_length]; omega)]
      simp
    | succ k =>
      rw [List.getElem?_append_right (by rw [Lib.byteCells_length]; omega), Lib.byteCells_length, hb, show (k + 1) * 128 + j - 128 = k * 128 + j by omega]
      exact ih (fun x hx => h x (List.mem_cons_of_mem _ hx)) (by simpa using hk)
theorem flat_set {D : List (List UInt8)} (h : ∀ b ∈ D, b.length = 128) {k : Nat} (hk : k < D.length) {c : List UInt8} (hc : c.length = 128) : setL (flat D) (k * 128) (Lib.byteCells c) = flat (D.set k c) := by
  have h' : ∀ b ∈ D.set k c, b.length = 128 := fun b hb => by
    rcases List.mem_or_eq_of_mem_set hb with hb | rfl
    · exact h b hb
    · exact hc
  have hl := flat_len h
  have hl' := flat_len h'
  rw [List.length_set] at hl'
  refine List.ext_getElem? fun i => ?_
  rw [setL_at, hl, Lib.byteCells_length, hc]
  by_cases hi : i < D.length * 128
  · have hq : i / 128 < D.length := by omega
    have e : i = i / 128 * 128 + i % 128 := by omega
    have hm : i % 128 < 128 := by omega
    have e2 := flat_at h' (k := i / 128) (by rw [List.length_set]; omega) hm
    have e1 := flat_at h hq hm
    rw [← e] at e1 e2
    rw [e2]
    by_cases hk' : k = i / 128
    · subst hk'
      rw [if_pos (by omega), show i - i / 128 * 128 = i % 128 by omega]
      simp
    · rw [if_neg (by omega), e1, List.getElem_set_ne hk']
  · rw [if_neg (by omega), List.getElem?_eq_none (by omega), List.getElem?_eq_none (by omega)]

/-- Writes one behind the other. -/
def wcells (l : List (Int × List UInt8)) : List Value := l.flatMap fun p => .int .i64 p.1 :: Lib.byteCells p.2
theorem wcells_append (l m : List (Int × List UInt8)) : wcells (l ++ m) = wcells l ++ wcells m := List.flatMap_append
theorem wcells_len {l : List (Int × List UInt8)} (h : ∀ p ∈ l, p.2.length = 128) : (wcells l).length = l.length * 129 := by
  induction l with
  | nil => rfl
  | cons b l ih =>
    have := h b List.mem_cons_self
    simp only [wcells, List.flatMap_cons, List.length_append, Lib.byteCells_length, List.length_cons] at ih ⊢
    rw [ih fun x hx => h x (List.mem_cons_of_mem _ hx)]
    omega
theorem wcells_at {l : List (Int × List UInt8)} (h : ∀ p ∈ l, p.2.length = 128) {k : Nat} (hk : k < l.length) {j : Nat} (hj : j < 129) : (wcells l)[k * 129 + j]? = (Value.int .i64 l[k].1 :: Lib.byteCells l[k].2)[j]? := by
  induction l generalizing k with
  | nil => simp at hk
  | cons b l ih =>
    have hb := h b List.mem_cons_self
    show ((Value.int .i64 b.1 :: Lib.byteCells b.2) ++ wcells l)[_]? = _
    cases k with
    | zero =>
      rw [List.getElem?_append_left (by rw [List.length_cons, Lib.byteCells_length]; omega)]
      simp
    | succ k =>
      rw [List.getElem?_append_right (by rw [List.length_cons, Lib.byteCells_length]; omega), List.length_cons, Lib.byteCells_length, hb, show (k + 1) * 129 + j - (128 + 1) = k * 129 + j by omega]
      exact ih (fun x hx => h x (List.mem_cons_of_mem _ hx)) (by simpa using hk)
theorem one_bytes (b : List UInt8) : ∀ u ∈ Lib.byteCells b, u.oneCell' = true := fun u hu => by
  simp only [Lib.byteCells, List.mem_map] at hu
  obtain ⟨_, -, rfl⟩ := hu
  rfl
theorem one_write (p : Int × List UInt8) : ∀ u ∈ Value.int .i64 p.1 :: Lib.byteCells p.2, u.oneCell' = true := fun u hu => by
  rcases List.mem_cons.1 hu with rfl | hu
  · rfl
  · exact one_bytes _ u hu
theorem one_flat (D : List (List UInt8)) : ∀ u ∈ flat D, u.oneCell' = true := fun u hu => by
  obtain ⟨b, -, hb⟩ := List.mem_flatMap.1 hu
  exact one_bytes b u hb
theorem one_writes (l : List (Int × List UInt8)) : ∀ u ∈ wcells l, u.oneCell' = true := fun u hu => by
  obtain ⟨b, -, hb⟩ := List.mem_flatMap.1 hu
  exact one_write b u hb

/-- What so many sectors hold behind writes. -/
def disk (n : Nat) (l : List (Int × List UInt8)) : List (List UInt8) := (List.range n).map fun k : Nat => last l (k : Int) nul
theorem disk_len (n : Nat) (l : List (Int × List UInt8)) : (disk n l).length = n := by simp [disk]
theorem disk_at {n : Nat} (l : List (Int × List UInt8)) {k : Nat} (hk : k < (disk n l).length) : (disk n l)[k] = last l (k : Int) nul := by simp [disk]
theorem disk_all {n : Nat} {l : List (Int × List UInt8)} (h : ∀ p ∈ l, p.2.length = 128) : ∀ b ∈ disk n l, b.length = 128 := fun b hb => by
  obtain ⟨k, -, rfl⟩ := List.mem_map.1 hb
  exact last_len h k rfl
theorem disk_set (n : Nat) (l : List (Int × List UInt8)) (a : Nat) (b : List UInt8) : (disk n l).set a b = disk n (l ++ [((a : Int), b)]) := by
  refine List.ext_getElem (by simp [disk_len]) fun k h1 h2 => ?_
  rw [List.getElem_set, disk_at, disk_at, last_one]
  by_cases e : a = k
  · subst e
    rw [if_pos rfl, if_pos rfl]
  · rw [if_neg e, if_neg (show ¬ ((a : Int), b).1 = (k : Int) from fun c => e (Int.ofNat.inj c))]
theorem disk_nul (n : Nat) : disk n [] = List.replicate n nul := by
  refine List.ext_getElem (by simp [disk_len]) fun k h1 h2 => ?_
  rw [disk_at, List.getElem_replicate]; rfl

/-! ### the tray -/
/-- The six cells of its box. -/
def boxC (n : Nat) (t : Tray (List UInt8)) (gn cn gk ck : Nat) (cv : Value) : Array Value := #[.slice (some ⟨gn, 0, none⟩) n cn, .slice (some ⟨gk, 0, none⟩) n ck, cv, .bool (decide (0 ≤ t.left)), .int .i64 (max t.left 0), .bool t.dark]
structure Lay (w : World) (p n : Nat) (t : Tray (List UInt8)) (F : Nat → Prop) (gn cn gk ck : Nat) (cv : Value) : Prop where
  box : w.heap[p]? = some (.cells (boxC n t gn cn gk ck cv) tTy (0, 0))
  now : w.ownsRow 0 tSe 128 (.slice (some ⟨gn, 0, none⟩) n cn) n (flat (disk n (t.kept ++ t.cache)))
  kept : w.ownsRow 0 tSe 128 (.slice (some ⟨gk, 0, none⟩) n ck) n (flat (disk n t.kept))
  cache : w.ownsRow 0 tWr 129 cv t.cache.length (wcells t.cache)
  fn : F gn
  fk : F gk
  fc : ∀ k, cv.ownBlock = some k → F k
  ne : gn ≠ gk
/-- A tray that lies in the blocks F. -/
structure IsT (w : World) (p n : Nat) (t : Tray (List UInt8)) (F : Nat → Prop) : Prop where
  num : 4 ≤ n ∧ n ≤ 4096
  left : -1 ≤ t.left ∧ t.left ≤ 1099511627776
  lenk : ∀ q ∈ t.kept, q.2.length = 128
  lenc : ∀ q ∈ t.cache, q.2.length = 128 ∧ 0 ≤ q.1 ∧ q.1 < n
  low : ∀ k, F k → k < w.heap.size
  fp : F p
  mem : ∃ gn cn gk ck cv, Lay w p n t F gn cn gk ck cv
section
variable {w x : World} {p n : Nat} {t : Tray (List UInt8)} {F G : Nat → Prop} {gn cn gk ck : Nat} {cv : Value}
theorem own_heap {base size m : Nat} {e : TypeId} {v : Value} {xs : List Value} (h : w.ownsRow base e size v m xs) {g : Nat} (hg : v.ownBlock = some g) : ∃ cur, w.heap[g]? = some (.cells cur e (0, 0)) := by
  rcases h.2 with ⟨rfl, -⟩ | ⟨g', cap, cur, rfl, -, hh, -⟩
  · cases hg
  · obtain rfl : g' = g := Option.some.inj hg
    exact ⟨cur, hh⟩
/-- Blocks of two types are apart. -/
theorem heap_ne {T U : TypeId} {c d : Array Value} {k l : Nat} (h1 : w.heap[k]? = some (.cells c T (0, 0))) (h2 : w.heap[l]? = some (.cells d U (0, 0))) (hn : T ≠ U) : k ≠ l := fun e => by
  subst e
  rw [h1] at h2
  injection Option.some.inj h2 with h3 h4
  exact hn h4
theorem Lay.turn (h : Lay w p n t F gn cn gk ck cv) (hp : F p) (ht : Turns G w x) (hF : ∀ k, F k → ¬ G k) : Lay x p n t F gn cn gk ck cv where
  box := ht.heap h.box (hF _ hp)
  now := own_turn h.now ht fun k hk => by obtain rfl : gn = k := Option.some.inj hk; exact hF _ h.fn
  kept := own_turn h.kept ht fun k hk => by obtain rfl : gk = k := Option.some.inj hk; exact hF _ h.fk
  cache := own_turn h.cache ht fun k hk => hF _ (h.fc k hk)
  fn := h.fn
  fk := h.fk
  fc := h.fc
  ne := h.ne
theorem IsT.turn (h : IsT w p n t F) (ht : Turns G w x) (hF : ∀ k, F k → ¬ G k) : IsT x p n t F where
  num := h.num
  left := h.left
  lenk := h.lenk
  lenc := h.lenc
  low := fun k hk => Nat.lt_of_lt_of_le (h.low k hk) ht.size
  fp := h.fp
  mem := by
    obtain ⟨gn, cn, gk, ck, cv, hl⟩ := h.mem
    exact ⟨gn, cn, gk, ck, cv, hl.turn h.fp ht hF⟩
theorem IsT.below (h : IsT w p n t F) (hb : Below w.heap.size w x) : IsT x p n t F := h.turn (G := fun _ => False) (Turns.of_below hb) fun _ _ h => h
theorem Lay.mono (h : Lay w p n t F gn cn gk ck cv) (hF : ∀ k, F k → G k) : Lay w p n t G gn cn gk ck cv :=
  ⟨h.box, h.now, h.kept, h.cache, hF _ h.fn, hF _ h.fk, fun k hk => hF k (h.fc k hk), h.ne⟩
theorem IsT.mono (h : IsT w p n t F) (hF : ∀ k, F k → G k) (hG : ∀ k, G k → k < w.heap.size) : IsT w p n t G where
  num := h.num
  left := h.left
  lenk := h.lenk
  lenc := h.lenc
  low := hG
  fp := hF _ h.fp
  mem := by
    obtain ⟨gn, cn, gk, ck, cv, hl⟩ := h.mem
    exact ⟨gn, cn, gk, ck, cv, hl.mono hF⟩
theorem IsT.grow {u : World} (h : IsT x p n t F) : IsT x p n t (Grow F u x) := h.mono (fun _ h => .inl h) fun k hk => hk.elim (h.low k) fun h => h.2
theorem Lay.apart (h : Lay w p n t F gn cn gk ck cv) : p ≠ gn ∧ p ≠ gk ∧ (∀ k, cv.ownBlock = some k → p ≠ k ∧ k ≠ gn ∧ k ≠ gk) := by
  obtain ⟨a, ha⟩ := own_heap h.now (g := gn) rfl
  obtain ⟨b, hb⟩ := own_heap h.kept (g := gk) rfl
  refine ⟨heap_ne h.box ha (by decide), heap_ne h.box hb (by decide), fun k hk => ?_⟩
  obtain ⟨c, hc⟩ := own_heap h.cache hk
  exact ⟨heap_ne h.box hc (by decide), heap_ne hc ha (by decide), heap_ne hc hb (by decide)⟩
theorem boxC_cells (h : w.heap[p]? = some (.cells (boxC n t gn cn gk ck cv) tTy (0, 0))) : w.cell? ⟨p, 0, none⟩ = some (.slice (some ⟨gn, 0, none⟩) n cn) ∧ w.cell? ⟨p, 1, none⟩ = some (.slice (some ⟨gk, 0, none⟩) n ck) ∧ w.cell? ⟨p, 2, none⟩ = some cv ∧
    w.cell? ⟨p, 3, none⟩ = some (.bool (decide (0 ≤ t.left))) ∧ w.cell? ⟨p, 4, none⟩ = some (.int .i64 (max t.left 0)) ∧ w.cell? ⟨p, 5, none⟩ = some (.bool t.dark) := by
  refine ⟨?_, ?_, ?_, ?_, ?_, ?_⟩ <;> (rw [Lib.cell_of_heap h]; rfl)
theorem boxC_free (h : w.heap[p]? = some (.cells (boxC n t gn cn gk ck cv) tTy (0, 0))) (j : Nat) : w.frozen? ⟨p, j, none⟩ = false := Lib.frozen_of_heap h j
/-- Another box in its place, with the same rows. -/
theorem IsT.rebox (h : IsT w p n t F) (hl : Lay w p n t F gn cn gk ck cv) {t' : Tray (List UInt8)} (h1 : t'.kept = t.kept) (h2 : t'.cache = t.cache) (h3 : -1 ≤ t'.left ∧ t'.left ≤ 1099511627776) (ht : Turns (fun k => k = p) w x)
    (hb : x.heap[p]? = some (.cells (boxC n t' gn cn gk ck cv) tTy (0, 0))) : IsT x p n t' F where
  num := h.num
  left := h3
  lenk := by rw [h1]; exact h.lenk
  lenc := by rw [h2]; exact h.lenc
  low := fun k hk => Nat.lt_of_lt_of_le (h.low k hk) ht.size
  fp := h.fp
  mem := by
    obtain ⟨a1, a2, a3⟩ := hl.apart
    refine ⟨gn, cn, gk, ck, cv, hb, ?_, ?_, ?_, hl.fn, hl.fk, hl.fc, hl.ne⟩
    · rw [h1, h2]
      exact own_turn hl.now ht fun k hk => by obtain rfl : gn = k := Option.some.inj hk; exact fun e => a1 e.symm
    · rw [h1]
      exact own_turn hl.kept ht fun k hk => by obtain rfl : gk = k := Option.some.inj hk; exact fun e => a2 e.symm
    · rw [h2]
      exact own_turn hl.cache ht fun k hk e => (a3 k hk).1 e.symm
end

/-! ### types -/
theorem secElem : ∃ i b, IsElem Try.prog tSs tSe i (.agg (sec nul)) 128 b ∧ b ≤ 128 := by
  refine ⟨_, _, ⟨by kernel_rfl, rfl, by kernel_rfl, by kernel_rfl, rfl, by kernel_rfl, by omega⟩, ?_⟩
  exact of_decide_eq_true (by kernel_rfl)
theorem wrElem : ∃ i z b, IsElem Try.prog tWs tWr i z 129 b ∧ b ≤ 200 := by
  refine ⟨_, _, _, ⟨by kernel_rfl, rfl, rfl, by kernel_rfl, rfl, by kernel_rfl, by omega⟩, ?_⟩
  exact of_decide_eq_true (by kernel_rfl)
theorem info_se : (Try.prog.info? tSe).map (·.size) = some 128 := by kernel_rfl
theorem zero_se (W : World) : (zeroValue tSe).run Try.prog W = .ok (.agg (sec nul)) W := by kernel_rfl
end Ta
end Go.Proofs.Ytkfmmdiflbnhgaa

namespace Go.Proofs.Ytkfmmdiflbnhgaa
set_option maxRecDepth 100000
open Go.RowKit
namespace Ta
open Knot (Turns NewRow)
open Tr (IsElem append_rows own_turn own_below own_slice own_open addp)

abbrev ptr (p : Nat) : Value := .pointer (some ⟨p, 0, none⟩)
section
variable {w : World} {p n : Nat} {t : Tray (List UInt8)} {F : Nat → Prop}

set_option maxHeartbeats 2000000 in
set_option maxRecDepth 100000 in
theorem sectors_any (h : IsT w p n t F) : Calls Try.prog 76 #[ptr p] w fun e x => e = .returned (.int .i64 n) ∧ x = w := by
  obtain ⟨gn, cn, gk, ck, cv, hl⟩ := h.mem
  obtain ⟨c0, -⟩ := boxC_cells hl.box
  clear h hl
  go_enter Try.func76, Try.ntmps76
  go_wp2_with fail
  go_ret
  exact ⟨rfl, rfl⟩
set_option maxHeartbeats 2000000 in
set_option maxRecDepth 100000 in
theorem has_any (k : Int) (h : IsT w p n t F) : Calls Try.prog 59 #[ptr p, .int .i64 k] w fun e x => e = .returned (.bool (decide (0 ≤ k ∧ k < n))) ∧ x = w := by
  obtain ⟨gn, cn, gk, ck, cv, hl⟩ := h.mem
  obtain ⟨c0, -⟩ := boxC_cells hl.box
  clear h hl
  by_cases h0 : 0 ≤ k
  · have e : decide (0 ≤ k ∧ k < n) = decide (k < n) := by simp [h0]
    rw [e]
    go_enter Try.func59, Try.ntmps59
    go_wp2_with fail
    go_ret
    exact ⟨rfl, rfl⟩
  · have e : decide (0 ≤ k ∧ k < n) = false := by simp [h0]
    rw [e]
    go_enter Try.func59, Try.ntmps59
    go_wp2_with fail
    go_ret
    exact ⟨rfl, rfl⟩

/-- The tray behind a step, whether it was done or refused. -/
def Tray.step {α : Type} (t : Tray α) : Tray α := if t.left = 0 then t.dim else t.less
theorem box_set {c : Array Value} (h : w.heap[p]? = some (.cells c tTy (0, 0))) (j : Nat) (v : Value) : (w.setCell ⟨p, j, none⟩ v).heap[p]? = some (.cells (c.setIfInBounds j v) tTy (0, 0)) := heap_setCell_same w p j c tTy v h
theorem turn_set (w : World) (p j : Nat) (v : Value) : Turns (fun k => k = p) w (w.setCell ⟨p, j, none⟩ v) := (Turns.refl (fun k => k = p) w).setCell (p := ⟨p, j, none⟩) rfl v
theorem step_left {α : Type} {t : Tray α} (h : -1 ≤ t.left ∧ t.left ≤ 1099511627776) : -1 ≤ t.step.left ∧ t.step.left ≤ 1099511627776 := by
  unfold Tray.step
  by_cases e : t.left = 0
  · rw [if_pos e]; exact h
  · rw [if_neg e]
    show -1 ≤ (if 0 < t.left then t.left - 1 else t.left) ∧ (if 0 < t.left then t.left - 1 else t.left) ≤ _
    split <;> omega
theorem step_parts {α : Type} (t : Tray α) : t.step.kept = t.kept ∧ t.step.cache = t.cache := by
  unfold Tray.step
  split <;> exact ⟨rfl, rfl⟩

set_option maxHeartbeats 2000000 in
set_option maxRecDepth 100000 in
theorem step_any (h : IsT w p n t F) : Calls Try.prog 60 #[ptr p] w fun e x => e = .returned (.bool (decide (t.left ≠ 0))) ∧ Turns (fun k => k = p) w x ∧ IsT x p n t.step F := by
  obtain ⟨gn, cn, gk, ck, cv, hl⟩ := h.mem
  obtain ⟨-, -, -, c3, c4, c5⟩ := boxC_cells hl.box
  have f4 := boxC_free hl.box 4
  have f5 := boxC_free hl.box 5
  have hb := hl.box
  have hq := h.left
  have hR : ∀ x : World, Turns (fun k => k = p) w x → x.heap[p]? = some (.cells (boxC n t.step gn cn gk ck cv) tTy (0, 0)) → IsT x p n t.step F := fun x ht hx =>
    h.rebox hl (step_parts t).1 (step_parts t).2 (step_left h.left) ht hx
  have HR := Lib.hid hR
  have HB := Lib.hid hb
  clear h hl hR hb
  by_cases e : t.left < 0
  · have e3 : decide (0 ≤ t.left) = false := by simp; omega
    rw [e3] at c3
    have HS := Lib.hid (show w.heap[p]? = some (.cells (boxC n t.step gn cn gk ck cv) tTy (0, 0)) from by
      have : boxC n t.step gn cn gk ck cv = boxC n t gn cn gk ck cv := by
        unfold boxC Tray.step
        rw [if_neg (by omega)]
        simp [Tray.less, show ¬ 0 < t.left by omega]
      rw [this]; exact HB.out)
    rw [show decide (t.left ≠ 0) = true by simp; omega]
    clear c4 e3 hq e
    go_enter Try.func60, Try.ntmps60
    go_wp2_with fail
    go_ret
    exact ⟨rfl, Turns.refl _ _, HR.out _ (Turns.refl _ _) HS.out⟩
  · have e3 : decide (0 ≤ t.left) = true := by simp; omega
    have e4 : max t.left 0 = t.left := by omega
    rw [e3] at c3
    rw [e4] at c4
    by_cases e0 : t.left = 0
    · rw [e0] at c4
      have HS := Lib.hid (show (w.setCell ⟨p, 5, none⟩ (.bool true)).heap[p]? = some (.cells (boxC n t.step gn cn gk ck cv) tTy (0, 0)) from by
        rw [box_set HB.out]
        unfold boxC Tray.step
        rw [if_pos e0]
        rfl)
      rw [show decide (t.left ≠ 0) = false by simp [e0]]
      clear e3 e4 hq e e0
      go_enter Try.func60, Try.ntmps60
      go_wp2_with fail
      go_ret
      exact ⟨rfl, turn_set _ _ _ _, HR.out _ (turn_set _ _ _ _) HS.out⟩
    · have hw : IntKind.wrap .i64 (t.left - 1) = t.left - 1 := by rw [IntKind.wrap_i64] <;> omega
      have hn0 : (t.left == 0) = false := by simp [e0]
      have HS := Lib.hid (show (w.setCell ⟨p, 4, none⟩ (.int .i64 (t.left - 1))).heap[p]? = some (.cells (boxC n t.step gn cn gk ck cv) tTy (0, 0)) from by
        rw [box_set HB.out]
        have ea : t.step = { t with left := t.left - 1 } := by
          unfold Tray.step Tray.less
          rw [if_neg e0, if_pos (by omega)]
        rw [ea]
        unfold boxC
        have e5 : max (t.left - 1) 0 = t.left - 1 := by omega
        have e6 : decide (0 ≤ t.left - 1) = true := by simp; omega
        simp only [e5, e6, e3]
        rfl)
      rw [show decide (t.left ≠ 0) = true by simp [e0]]
      clear e3 e4 hq e
      go_enter Try.func60, Try.ntmps60
      go_wp2_with fail
      go_ret
      exact ⟨rfl, turn_set _ _ _ _, HR.out _ (turn_set _ _ _ _) HS.out⟩

set_option maxHeartbeats 2000000 in
set_option maxRecDepth 100000 in
/-- A power is told. -/
theorem power_any (z : Int) (h : IsT w p n t F) : Calls Try.prog 26 #[ptr p, .int .i64 z] w fun e x =>
    e = .returned (.int .i64 (if 0 ≤ z ∧ z ≤ 1099511627776 then 0 else 1)) ∧ Turns (fun k => k = p) w x ∧ IsT x p n (if 0 ≤ z ∧ z ≤ 1099511627776 then t.power z else t) F := by
  by_cases h0 : z < 0
  · simp only [show ¬ (0 ≤ z ∧ z ≤ 1099511627776) by omega, if_false]
    go_enter Try.func26, Try.ntmps26
    go_wp2_with fail
    go_ret
    exact ⟨rfl, Turns.refl _ _, h⟩
  · by_cases h1 : 1099511627776 < z
    · simp only [show ¬ (0 ≤ z ∧ z ≤ 1099511627776) by omega, if_false]
      go_enter Try.func26, Try.ntmps26
      go_wp2_with fail
      go_ret
      exact ⟨rfl, Turns.refl _ _, h⟩
    · simp only [show 0 ≤ z ∧ z ≤ 1099511627776 by omega]
      obtain ⟨gn, cn, gk, ck, cv, hl⟩ := h.mem
      obtain ⟨-, -, -, c3, c4, c5⟩ := boxC_cells hl.box
      have f3 := boxC_free hl.box 3
      have f4 := boxC_free hl.box 4
      have f5 := boxC_free hl.box 5
      have H := Lib.hid (And.intro h hl)
      have HT := Lib.hid (((turn_set w p 3 (.bool true)).trans (turn_set _ p 4 (.int .i64 z)) fun _ _ h => h).trans (turn_set _ p 5 (.bool false)) fun _ _ h => h)
      have HS := Lib.hid (show (((w.setCell ⟨p, 3, none⟩ (.bool true)).setCell ⟨p, 4, none⟩ (.int .i64 z)).setCell ⟨p, 5, none⟩ (.bool false)).heap[p]? = some (.cells (boxC n (t.power z) gn cn gk ck cv) tTy (0, 0)) from by
        rw [box_set (box_set (box_set hl.box 3 _) 4 _)]
        unfold boxC Tray.power
        have e5 : max z 0 = z := by omega
        have e6 : decide (0 ≤ z) = true := by simp; omega
        simp only [e5, e6]
        rfl)
      clear h hl
      go_enter Try.func26, Try.ntmps26
      go_wp2_with fail
      go_ret
      exact ⟨rfl, HT.out, H.out.1.rebox H.out.2 rfl rfl (by show -1 ≤ z ∧ z ≤ _; omega) HT.out HS.out⟩
end
end Ta
end Go.Proofs.Ytkfmmdiflbnhgaa

namespace Go.Proofs.Ytkfmmdiflbnhgaa
set_option maxRecDepth 100000
open Go.RowKit
namespace Ta
open Knot (Turns NewRow)
open Tr (IsElem append_rows own_turn own_below own_slice own_open addp)

theorem store_se (W : World) (b : Nat) (c c' : List UInt8) (hb : b = W.heap.size) (hc : c.length = 128) (hc' : c'.length = 128) : (storeCells ⟨b, 0, none⟩ (sec c').toList 0).run Try.prog (W.alloc (.cells (sec c) tSe)) = .ok () (W.alloc (.cells (sec c') tSe)) := by
  subst hb
  exact run_storeCells_new W tSe _ _ (by rw [sec_size hc']; exact info_se) (by rw [sec_size hc, sec_size hc']) (sec_one _)
theorem index_se (g n cap : Nat) (k : Int) (h0 : 0 ≤ k) (h1 : k < n) (W : World) : (Instr.indexAt tSs (.slice (some ⟨g, 0, none⟩) n cap) (.int .i64 k)).run Try.prog W = .ok (.pointer (some ⟨g, k.toNat * 128, none⟩)) W := by
  have hz : ∀ w, (sizeOf (Try.prog.elem tSs)).run Try.prog w = .ok 128 w := fun w => by kernel_rfl
  rw [run_indexAt_slice W _ _ _ _ _ _ Try.underlying100, if_pos ⟨h0, by omega⟩, hz]
  simp only [Result.andThen_ok, Addr.add_lit, Nat.zero_add]
section
variable {w : World} {p n : Nat} {t : Tray (List UInt8)} {F : Nat → Prop}
/-- A sector out of a row of sectors. -/
theorem sec_lies {g cap : Nat} {l : List (Int × List UInt8)} (h : w.ownsRow 0 tSe 128 (.slice (some ⟨g, 0, none⟩) n cap) n (flat (disk n l))) (hl : ∀ q ∈ l, q.2.length = 128) {k : Int} (h0 : 0 ≤ k) (h1 : k < n) : w.rangeAt g (k.toNat * 128) (Lib.byteCells (last l k nul)) := fun j v hj => by
  have hlen := last_len hl k (z := nul) rfl
  have hj' : j < 128 := by
    have := (List.getElem?_eq_some_iff.1 hj).1
    rw [Lib.byteCells_length, hlen] at this
    exact this
  have hk : k.toNat < n := by omega
  rw [h.cellAt (k.toNat * 128 + j) (by omega), flat_at (disk_all hl) (by rw [disk_len]; exact hk) hj', disk_at]
  rw [show ((k.toNat : Nat) : Int) = k by omega]
  exact hj

set_option maxHeartbeats 4000000 in
set_option maxRecDepth 100000 in
theorem tread_any (k : Int) (h : IsT w p n t F) (h0 : 0 ≤ k) (h1 : k < n) : Calls Try.prog 33 #[ptr p, .int .i64 k] w fun e x =>
    e = .returned (.tuple #[.slice (some ⟨w.heap.size, 0, none⟩) 128 128, .int .i64 0]) ∧ x.heap[w.heap.size]? = some (.cells (sec (t.read nul k)) tSe (0, 0)) ∧ Below w.heap.size w x := by
  obtain ⟨gn, cn, gk, ck, cv, hl⟩ := h.mem
  obtain ⟨c0, -⟩ := boxC_cells hl.box
  have hc : ∀ q ∈ t.kept ++ t.cache, q.2.length = 128 := fun q hq => (List.mem_append.1 hq).elim (h.lenk q) fun hq => (h.lenc q hq).1
  have HR := Lib.hid (sec_lies hl.now hc h0 h1)
  have h8 := last_len hc k (z := nul) rfl
  have HH := Lib.hid (has_any k h)
  have hz := zero_se
  have hs0 : (sec nul).size = 128 := rfl
  have hs8 := sec_size h8
  have hix := index_se gn n cn k h0 h1
  have hst := store_se w w.heap.size nul (last (t.kept ++ t.cache) k nul) rfl rfl h8
  have H8 := Lib.hid h8
  have HD := Lib.hid (show decide (0 ≤ k ∧ k < n) = true by simp [h0, h1])
  unfold Tray.read
  have HX := Lib.hid (heap_alloc_new w (.cells (sec (last (t.kept ++ t.cache) k nul)) tSe))
  clear h hl hc h8
  go_enter Try.func33, Try.ntmps33
  go_wp2_with fail
  refine HH.out.mono ?_
  rintro e x ⟨rfl, rfl⟩
  rw [HD.out]
  go_wp2_with fail
  refine wp_load_mid tSe (.tmp 16) rfl gn (k.toNat * 128) rfl (Lib.byteCells (last (t.kept ++ t.cache) k nul)) _ HR.out Try.underlying115 rfl (by rw [Lib.byteCells_length, H8.out]; exact info_se) ?_
  rw [show (Lib.byteCells (last (t.kept ++ t.cache) k nul)).toArray = sec (last (t.kept ++ t.cache) k nul) from rfl]
  go_wp2_with fail
  go_ret2
  exact ⟨rfl, HX.out, (Below.refl _ _).alloc (Nat.le_refl _) _⟩
set_option maxHeartbeats 4000000 in
set_option maxRecDepth 100000 in
theorem tread_none (k : Int) (h : IsT w p n t F) (h1 : ¬ (0 ≤ k ∧ k < n)) : Calls Try.prog 33 #[ptr p, .int .i64 k] w fun e x =>
    e = .returned (.tuple #[.slice none 0 0, .int .i64 1]) ∧ x = w := by
  have HH := Lib.hid (has_any k h)
  have HD := Lib.hid (show decide (0 ≤ k ∧ k < n) = false by simp only [decide_eq_false_iff_not]; exact h1)
  clear h h1
  go_enter Try.func33, Try.ntmps33
  go_wp2_with fail
  refine HH.out.mono ?_
  rintro e x ⟨rfl, rfl⟩
  rw [HD.out]
  go_wp2_with fail
  go_ret2
  exact ⟨rfl, rfl⟩
end
end Ta
end Go.Proofs.Ytkfmmdiflbnhgaa

namespace Go.Proofs.Ytkfmmdiflbnhgaa
set_option maxRecDepth 100000
open Go.RowKit
namespace Ta
open Knot (Turns NewRow)
open Tr (IsElem append_rows walk_rows own_turn own_below own_slice own_open addp)

theorem own_low {w : World} {B c m : Nat} {e : TypeId} {v : Value} {xs : List Value} (h : w.ownsRow B e c v m xs) : w.ownsRow 0 e c v m xs := by
  refine ⟨h.1, ?_⟩
  rcases h.2 with h0 | ⟨g, cap, cur, hv, -, r⟩
  · exact .inl h0
  · exact .inr ⟨g, cap, cur, hv, Nat.zero_le _, r⟩
theorem empty_se (w : World) : (w.alloc (.cells #[] tSe)).ownsRow w.heap.size tSe 128 (.slice (some ⟨w.heap.size, 0, none⟩) 0 0) 0 [] := World.ownsRow_made w #[] 0 (Nat.le_refl _) (by unfold maxLen; omega) rfl
section
variable {w : World} {n : Nat}
set_option maxHeartbeats 4000000 in
set_option maxRecDepth 100000 in
theorem clone_any (g cap : Nat) (xs : List Value) (h : w.ownsRow 0 tSe 128 (.slice (some ⟨g, 0, none⟩) n cap) n xs) (h1 : ∀ u ∈ xs, u.oneCell' = true) (hn : 4 ≤ n ∧ n ≤ 4096) :
    Calls Try.prog 58 #[.slice (some ⟨g, 0, none⟩) n cap] w fun e x => ∃ g' c', e = .returned (.slice (some ⟨g', 0, none⟩) n c') ∧ x.ownsRow w.heap.size tSe 128 (.slice (some ⟨g', 0, none⟩) n c') n xs ∧ Below w.heap.size w x := by
  obtain ⟨i0, b0, T, hb0⟩ := secElem
  have hc := h.cells (g := g) rfl
  have hlt := (h.lt g rfl).2
  have he : ∀ W : World, (binOp .eql tSs (.slice (some ⟨g, 0, none⟩) n cap) (.slice none 0 0)).run Try.prog W = .ok (.bool false) W := fun _ => rfl
  have H := Lib.hid (And.intro h (And.intro hn hb0))
  clear h hb0 hn
  go_enter Try.func58, Try.ntmps58
  go_wp2_with (at_builtin; refine walk_rows T rfl _ _ rfl rfl rfl (empty_se w) (by simp) (m := n) (news := xs) H.out.1.1 (fun j u hj => (((Below.refl w.heap.size w).alloc (Nat.le_refl _) _).cell (by rw [addp]; exact hlt)).trans (hc j u hj)) h1 (by have := H.out.2.1; omega) (Nat.le_trans (Nat.mul_le_mul_left _ H.out.2.2) (by have := H.out.2.1; omega)) ?_)
  intro v1 w1 o1 g1 n1
  obtain ⟨a1, p1, rfl⟩ := own_slice o1
  have b1 := ((Below.refl w.heap.size w).alloc (Nat.le_refl _) (.cells #[] tSe)).grown g1 (by simp) (fun k hk => by have : w.heap.size = k := Option.some.inj hk; omega)
  obtain ⟨g', rfl⟩ : ∃ g', a1 = some ⟨g', 0, none⟩ := by
    rcases o1.2 with ⟨-, h0⟩ | ⟨g', cap', cur, hv, -⟩
    · have := H.out.2.1; omega
    · exact ⟨g', by injection hv⟩
  have HO := Lib.hid (And.intro o1 b1)
  clear o1 b1 g1 n1
  go_wp2
  go_ret
  exact ⟨_, _, rfl, HO.out.1, HO.out.2⟩

/-- A new tray out of kept sectors. -/
def fromK (l : List (Int × List UInt8)) : Tray (List UInt8) := ⟨l, [], -1, false⟩
set_option maxHeartbeats 4000000 in
set_option maxRecDepth 100000 in
theorem keeping_any (gk ck : Nat) (l : List (Int × List UInt8)) (h : w.ownsRow 0 tSe 128 (.slice (some ⟨gk, 0, none⟩) n ck) n (flat (disk n l))) (hl : ∀ q ∈ l, q.2.length = 128) (hn : 4 ≤ n ∧ n ≤ 4096) :
    Calls Try.prog 50 #[.slice (some ⟨gk, 0, none⟩) n ck] w fun e x => ∃ p, e = .returned (ptr p) ∧ w.heap.size ≤ p ∧ Below w.heap.size w x ∧ IsT x p n (fromK l) (fun k => k = gk ∨ Made w x k) := by
  have HC := Lib.hid (clone_any gk ck _ h (one_flat _) hn)
  have hlt := (h.lt gk rfl).2
  have H := Lib.hid (And.intro h (And.intro hl (And.intro hn hlt)))
  clear h hl hn hlt
  go_enter Try.func50, Try.ntmps50
  go_wp2_with fail
  refine HC.out.mono ?_
  rintro e x ⟨g', c', rfl, o1, b1⟩
  obtain ⟨h, hl, hn, hlt⟩ := H.out
  have hk := own_below h b1
  have hlo := o1.lt g' rfl
  have HO := Lib.hid (And.intro o1 (And.intro b1 (And.intro hk hlo)))
  clear o1 b1 hk hlo h hl hn hlt
  have key : ∀ X : World, X = x.alloc (.cells (boxC n (fromK l) g' c' gk ck (.slice none 0 0)) tTy) → w.heap.size ≤ x.heap.size ∧ Below w.heap.size w X ∧ IsT X x.heap.size n (fromK l) (fun k => k = gk ∨ Made w X k) := by
    intro X hX
    obtain ⟨o1, b1, hk, h1, h2⟩ := HO.out
    obtain ⟨h, hl, hn, hlt⟩ := H.out
    have ha : Below x.heap.size x X := by rw [hX]; exact (Below.refl _ _).alloc (Nat.le_refl _) _
    have hs : X.heap.size = x.heap.size + 1 := by rw [hX]; simp
    have hbox : X.heap[x.heap.size]? = some (.cells (boxC n (fromK l) g' c' gk ck (.slice none 0 0)) tTy (0, 0)) := by rw [hX]; exact heap_alloc_new x _
    clear hX
    have hz := b1.size
    refine ⟨hz, b1.trans (ha.mono hz), hn, ⟨by show (-1 : Int) ≤ -1; omega, by show (-1 : Int) ≤ 1099511627776; omega⟩, hl, fun q hq => by simp [fromK] at hq, fun k hk => ?_, .inr ⟨hz, by omega⟩, g', c', gk, ck, .slice none 0 0, ?_⟩
    · rcases hk with rfl | hk
      · omega
      · exact hk.2
    · refine ⟨hbox, ?_, own_below hk ha, World.ownsRow_nil _ _ _ _, .inr ⟨h1, by omega⟩, .inl rfl, (fun k hk => nomatch hk), by omega⟩
      show X.ownsRow 0 tSe 128 _ n (flat (disk n (l ++ [])))
      rw [List.append_nil]
      exact own_below (own_low o1) ha
  have HK := Lib.hid key
  clear key HO
  go_wp2_with fail
  go_ret
  exact ⟨x.heap.size, rfl, HK.out _ rfl⟩

theorem nul_cells : Lib.byteCells nul = List.replicate 128 (.int .u8 0) := by simp [Lib.byteCells, nul]
theorem flat_nul (n : Nat) : flat (List.replicate n nul) = List.replicate (n * 128) (.int .u8 0) := by
  refine List.eq_replicate_iff.2 ⟨?_, fun u hu => ?_⟩
  · rw [flat_len fun b hb => by rw [(List.mem_replicate.1 hb).2]; rfl, List.length_replicate]
  · obtain ⟨b, hb, hu⟩ := List.mem_flatMap.1 hu
    rw [(List.mem_replicate.1 hb).2, nul_cells] at hu
    exact (List.mem_replicate.1 hu).2
theorem made_nul (n : Nat) : (madeCells (sec nul) (n * 128)).toList = flat (disk n []) := by
  rw [disk_nul, flat_nul]
  refine List.eq_replicate_iff.2 ⟨by simp [size_madeCells], fun u hu => ?_⟩
  simp only [madeCells, Array.toList_map, List.mem_map] at hu
  obtain ⟨i, -, rfl⟩ := hu
  have hs : (sec nul).size = 128 := rfl
  have hi : i % (sec nul).size < (sec nul).size := by rw [hs]; omega
  rw [getElem!_pos (sec nul) _ hi]
  have : (sec nul)[i % (sec nul).size] ∈ sec nul := Array.getElem_mem hi
  simp only [sec, nul_cells, List.mem_toArray] at this
  exact (List.mem_replicate.1 this).2
end

set_option maxHeartbeats 4000000 in
set_option maxRecDepth 100000 in
theorem new_any (n : Nat) (hn : 4 ≤ n ∧ n ≤ 4096) (w : World) : Calls Try.prog 17 #[.int .i64 n] w fun e x => ∃ p, e = .returned (.tuple #[ptr p, .int .i64 0]) ∧ Below w.heap.size w x ∧ IsT x p n Tray.fresh (Made w x) := by
  obtain ⟨i0, b0, T, hb0⟩ := secElem
  have hmk := run_make (P := Try.prog) w tSs tSe i0 (.agg (sec nul)) T.under T.info T.zero .i64 .i64 (n : Int) (n : Int) (by omega) (Int.le_refl _) (by
    rw [T.bytes]
    have h1 : (b0 : Int) ≤ 128 := by omega
    have h2 : (b0 : Int) * n ≤ 128 * n := Int.mul_le_mul_of_nonneg_right h1 (by omega)
    omega) (by omega)
  rw [T.size, Int.toNat_natCast] at hmk
  change _ = Result.ok _ (w.alloc (.cells (madeCells (sec nul) (n * 128)) tSe)) at hmk
  have hrow : (w.alloc (.cells (madeCells (sec nul) (n * 128)) tSe)).ownsRow w.heap.size tSe 128 (.slice (some ⟨w.heap.size, 0, none⟩) n n) n (flat (disk n [])) := by
    rw [← made_nul]
    exact World.ownsRow_lit w _ n (Nat.le_refl _) (by unfold maxLen; omega) (size_madeCells _ _)
  have HK := Lib.hid (keeping_any w.heap.size n [] (own_low hrow) (fun q hq => by simp at hq) hn)
  have HB := Lib.hid (show Below w.heap.size w (w.alloc (.cells (madeCells (sec nul) (n * 128)) tSe)) from (Below.refl _ _).alloc (Nat.le_refl _) _)
  have h1 : ¬ ((n : Int) < 4) := by omega
  have h2 : ¬ ((4096 : Int) < n) := by omega
  clear hrow hb0 T hn
  generalize hW : w.alloc (.cells (madeCells (sec nul) (n * 128)) tSe) = W at *
  have HW := Lib.hid (show W.heap.size = w.heap.size + 1 by rw [← hW]; simp)
  clear hW
  go_enter Try.func17, Try.ntmps17
  go_wp2_with fail
  refine HK.out.mono ?_
  rintro e x ⟨p, rfl, hp, hb, ht⟩
  have HT := Lib.hid (And.intro hp (And.intro hb ht))
  clear hp hb ht
  go_wp2_with fail
  go_ret2
  obtain ⟨hp, hb, ht⟩ := HT.out
  have hs := HW.out
  have hz := hb.size
  refine ⟨p, rfl, HB.out.trans (hb.mono (by omega)), ht.mono (fun k hk => ?_) fun k hk => hk.2⟩
  rcases hk with rfl | hk
  · exact ⟨Nat.le_refl _, by omega⟩
  · exact ⟨by have := hk.1; omega, hk.2⟩
set_option maxHeartbeats 4000000 in
set_option maxRecDepth 100000 in
theorem new_none (n : Int) (hn : ¬ (4 ≤ n ∧ n ≤ 4096)) (w : World) : Calls Try.prog 17 #[.int .i64 n] w fun e x => e = .returned (.tuple #[.pointer none, .int .i64 1]) ∧ x = w := by
  by_cases h1 : n < 4
  · go_enter Try.func17, Try.ntmps17
    go_wp2_with fail
    go_ret2
    exact ⟨rfl, rfl⟩
  · have h2 : 4096 < n := by omega
    go_enter Try.func17, Try.ntmps17
    go_wp2_with fail
    go_ret2
    exact ⟨rfl, rfl⟩
end Ta
end Go.Proofs.Ytkfmmdiflbnhgaa
