/-
  Layer 12: the program's tray in memory: a box of six cells, two rows of sectors, a row of writes.
-/
import Derived.Test.YtdodmjcbjknneaaTaRead
import Derived.Test.YtdodmjcbjknneaaRows2
import Derived.Laws.MakeOwn
import Derived.Laws.OwnMore
import Derived.Great.BuildSlice
namespace Go.Proofs.Ytdodmjcbjknneaa
set_option maxRecDepth 100000
open Go.RowKit
namespace Ta
open Knot (Turns NewRow)
open Tr (IsElem append_rows own_turn own_below own_slice own_open addp)

abbrev tSe : TypeId := 92
abbrev tSs : TypeId := 77
abbrev tWr : TypeId := 94
abbrev tWs : TypeId := 88
abbrev tTy : TypeId := 90

/-! ### what stays -/
/-- What holds now, and whatever of the blocks in F turns. -/
def Stay (F : Nat → Prop) (w : World) (P : World → Prop) : Prop := ∀ x, Turns F w x → P x
section
variable {F G : Nat → Prop} {w x y : World} {P : World → Prop}
theorem Stay.now (h : Stay F w P) : P w := h w (Turns.refl F w)
theorem Stay.grow (h : Stay F w P) (ht : Turns F w y) (hG : ∀ k, k < w.heap.size → G k → F k) : Stay G y P := fun x hx => h x (ht.trans hx hG)
theorem Stay.turn (h : Stay F w P) (ht : Turns F w y) : Stay F y P := h.grow ht fun _ _ h => h
theorem Stay.below (h : Stay F w P) (hb : Below w.heap.size w y) : Stay F y P := h.turn (Turns.of_below hb)
/-- The blocks of F, and those that were made from w to x. -/
def Grow (F : Nat → Prop) (w x : World) (k : Nat) : Prop := F k ∨ (w.heap.size ≤ k ∧ k < x.heap.size)
theorem Stay.more (h : Stay F w P) (ht : Turns F w y) : Stay (Grow F w y) y P := h.grow ht fun k hk hg => hg.elim id fun h => by omega
/-- The blocks that were made from w to x. -/
def Made (w x : World) (k : Nat) : Prop := w.heap.size ≤ k ∧ k < x.heap.size
end

/-! ### rows -/
def setL (xs : List Value) (o : Nat) : List Value → List Value
  | [] => xs
  | v :: r => setL (xs.set o v) (o + 1) r
theorem setL_at : ∀ (vs xs : List Value) (o j : Nat), (setL xs o vs)[j]? = if o ≤ j ∧ j < o + vs.length ∧ j < xs.length then vs[j - o]? else xs[j]?
  | [], xs, o, j => by
    rw [setL, if_neg]
    simp only [List.length_nil]
    omega
  | v :: r, xs, o, j => by
    rw [setL, setL_at r (xs.set o v) (o + 1) j]
    simp only [List.length_set, List.length_cons, List.getElem?_set]
    by_cases h : o = j
    · subst h
      rw [if_neg (by omega), if_pos rfl]
      by_cases hl : o < xs.length
      · rw [if_pos hl, if_pos (by omega), Nat.sub_self]; rfl
      · rw [if_neg hl, if_neg (by omega), List.getElem?_eq_none (by omega)]
    · rw [if_neg h]
      by_cases hc : o + 1 ≤ j ∧ j < o + 1 + r.length ∧ j < xs.length
      · rw [if_pos hc, if_pos (by omega), show j - o = (j - (o + 1)) + 1 by omega, List.getElem?_cons_succ]
      · rw [if_neg hc, if_neg (by omega)]
theorem setL_len (vs : List Value) : ∀ (xs : List Value) (o : Nat), (setL xs o vs).length = xs.length := by
  induction vs with
  | nil => intro xs o; rfl
  | cons v r ih => intro xs o; rw [setL, ih, List.length_set]

theorem own_set {base size n cap g : Nat} {e : TypeId} : ∀ (vs : List Value) (o : Nat) {w : World} {xs : List Value}, w.ownsRow base e size (.slice (some ⟨g, 0, none⟩) n cap) n xs →
    (w.setCells g o vs).ownsRow base e size (.slice (some ⟨g, 0, none⟩) n cap) n (setL xs o vs) ∧ Turns (fun k => k = g) w (w.setCells g o vs)
  | [], o, w, xs, h => ⟨h, Turns.refl _ _⟩
  | v :: r, o, w, xs, h => by
    obtain ⟨h1, h2⟩ := h.stored o v
    obtain ⟨h3, h4⟩ := own_set r (o + 1) h1
    exact ⟨h3, (Turns.of_grown h2 fun k hk => (Option.some.inj hk).symm).trans h4 fun _ _ h => h⟩
theorem own_there {base size n cap g : Nat} {e : TypeId} {w : World} {xs : List Value} (h : w.ownsRow base e size (.slice (some ⟨g, 0, none⟩) n cap) n xs) {o m : Nat} (hm : o + m ≤ n * size) : w.there g o m := fun j hj => by
  have hl := h.1
  refine ⟨?_, h.frozenAt _⟩
  rw [h.cellAt (o + j) (by omega), List.getElem?_eq_getElem (by omega)]; rfl

/-- Sectors one behind the other. -/
def flat (D : List (List UInt8)) : List Value := D.flatMap Lib.byteCells
theorem flat_len {D : List (List UInt8)} (h : ∀ b ∈ D, b.length = 128) : (flat D).length = D.length * 128 := by
  induction D with
  | nil => rfl
  | cons b D ih =>
    have := h b List.mem_cons_self
    simp only [flat, List.flatMap_cons, List.length_append, Lib.byteCells_length, List.length_cons] at ih ⊢
    rw [ih fun x hx => h x (List.mem_cons_of_mem _ hx)]
    omega
theorem flat_at {D : List (List UInt8)} (h : ∀ b ∈ D, b.length = 128) {k : Nat} (hk : k < D.length) {j : Nat} (hj : j < 128) : (flat D)[k * 128 + j]? = (Lib.byteCells D[k])[j]? := by
  induction D generalizing k with
  | nil => simp at hk
  | cons b D ih =>
    have hb := h b List.mem_cons_self
    show (Lib.byteCells b ++ flat D)[_]? = _
    cases k with
    | zero =>
      rw [List.getElem?_append_left (by rw [Lib.byteCells_length]; omega)]
      simp
    | succ k =>
      rw [List.getElem?_append_right (by rw [Lib.byteCells_length]; omega), Lib.byteCells_length, hb, show (k + 1) * 128 + j - 128 = k * 128 + j by omega]
      exact ih (fun x hx => h x (List.mem_cons_of_mem _ hx)) (by simpa using hk)
theorem flat_set {D : List (List UInt8)} (h : ∀ b ∈ D, b.length = 128) {k : Nat} (hk : k < D.length) {c : List UInt8} (hc : c.length = 128) : setL (flat D) (k * 128) (Lib.byteCells c) = flat (D.set k c) := by
  have h' : ∀ b ∈ D.set k c, b.length = 128 := fun b hb => by
    rcases List.mem_or_eq_of_mem_set hb with hb | rfl
    · exact h b hb
    · exact hc
  have hl := flat_len h
  have hl' := flat_len h'
  rw [List.length_set] at hl'
  refine List.ext_getElem? fun i => ?_
  rw [setL_at, hl, Lib.byteCells_length, hc]
  by_cases hi : i < D.length * 128
  · have hq : i / 128 < D.length := by omega
    have e : i = i / 128 * 128 + i % 128 := by omega
    have hm : i % 128 < 128 := by omega
    have e2 := flat_at h' (k := i / 128) (by rw [List.length_set]; omega) hm
    have e1 := flat_at h hq hm
    rw [← e] at e1 e2
    rw [e2]
    by_cases hk' : k = i / 128
    · subst hk'
      rw [if_pos (by omega), show i - i / 128 * 128 = i % 128 by omega]
      simp
    · rw [if_neg (by omega), e1, List.getElem_set_ne hk']
  · rw [if_neg (by omega), List.getElem?_eq_none (by omega), List.getElem?_eq_none (by omega)]

/-- Writes one behind the other. -/
def wcells (l : List (Int × List UInt8)) : List Value := l.flatMap fun p => .int .i64 p.1 :: Lib.byteCells p.2
theorem wcells_append (l m : List (Int × List UInt8)) : wcells (l ++ m) = wcells l ++ wcells m := List.flatMap_append
theorem wcells_len {l : List (Int × List UInt8)} (h : ∀ p ∈ l, p.2.length = 128) : (wcells l).length = l.length * 129 := by
  induction l with
  | nil => rfl
  | cons b l ih =>
    have := h b List.mem_cons_self
    simp only [wcells, List.flatMap_cons, List.length_append, Lib.byteCells_length, List.length_cons] at ih ⊢
    rw [ih fun x hx => h x (List.mem_cons_of_mem _ hx)]
    omega
theorem wcells_at {l : List (Int × List UInt8)} (h : ∀ p ∈ l, p.2.length = 128) {k : Nat} (hk : k < l.length) {j : Nat} (hj : j < 129) : (wcells l)[k * 129 + j]? = (Value.int .i64 l[k].1 :: Lib.byteCells l[k].2)[j]? := by
  induction l generalizing k with
  | nil => simp at hk
  | cons b l ih =>
    have hb := h b List.mem_cons_self
    show ((Value.int .i64 b.1 :: Lib.byteCells b.2) ++ wcells l)[_]? = _
    cases k with
    | zero =>
      rw [List.getElem?_append_left (by rw [List.length_cons, Lib.byteCells_length]; omega)]
      simp
    | succ k =>
      rw [List.getElem?_append_right (by rw [List.length_cons, Lib.byteCells_length]; omega), List.length_cons, Lib.byteCells_length, hb, show (k + 1) * 129 + j - (128 + 1) = k * 129 + j by omega]
      exact ih (fun x hx => h x (List.mem_cons_of_mem _ hx)) (by simpa using hk)
theorem one_bytes (b : List UInt8) : ∀ u ∈ Lib.byteCells b, u.oneCell' = true := fun u hu => by
  simp only [Lib.byteCells, List.mem_map] at hu
  obtain ⟨_, -, rfl⟩ := hu
  rfl
theorem one_write (p : Int × List UInt8) : ∀ u ∈ Value.int .i64 p.1 :: Lib.byteCells p.2, u.oneCell' = true := fun u hu => by
  rcases List.mem_cons.1 hu with rfl | hu
  · rfl
  · exact one_bytes _ u hu
theorem one_flat (D : List (List UInt8)) : ∀ u ∈ flat D, u.oneCell' = true := fun u hu => by
  obtain ⟨b, -, hb⟩ := List.mem_flatMap.1 hu
  exact one_bytes b u hb
theorem one_writes (l : List (Int × List UInt8)) : ∀ u ∈ wcells l, u.oneCell' = true := fun u hu => by
  obtain ⟨b, -, hb⟩ := List.mem_flatMap.1 hu
  exact one_write b u hb

/-- What so many sectors hold behind writes. -/
def disk (n : Nat) (l : List (Int × List UInt8)) : List (List UInt8) := (List.range n).map fun k : Nat => last l (k : Int) nul
theorem disk_len (n : Nat) (l : List (Int × List UInt8)) : (disk n l).length = n := by simp [disk]
theorem disk_at {n : Nat} (l : List (Int × List UInt8)) {k : Nat} (hk : k < (disk n l).length) : (disk n l)[k] = last l (k : Int) nul := by simp [disk]
theorem disk_all {n : Nat} {l : List (Int × List UInt8)} (h : ∀ p ∈ l, p.2.length = 128) : ∀ b ∈ disk n l, b.length = 128 := fun b hb => by
  obtain ⟨k, -, rfl⟩ := List.mem_map.1 hb
  exact last_len h k rfl
theorem disk_set (n : Nat) (l : List (Int × List UInt8)) (a : Nat) (b : List UInt8) : (disk n l).set a b = disk n (l ++ [((a : Int), b)]) := by
  refine List.ext_getElem (by simp [disk_len]) fun k h1 h2 => ?_
  rw [List.getElem_set, disk_at, disk_at, last_one]
  by_cases e : a = k
  · subst e
    rw [if_pos rfl, if_pos rfl]
  · rw [if_neg e, if_neg (show ¬ ((a : Int), b).1 = (k : Int) from fun c => e (Int.ofNat.inj c))]
theorem disk_nul (n : Nat) : disk n [] = List.replicate n nul := by
  refine List.ext_getElem (by simp [disk_len]) fun k h1 h2 => ?_
  rw [disk_at, List.getElem_replicate]; rfl

/-! ### the tray -/
/-- The six cells of its box. -/
def boxC (n : Nat) (t : Tray (List UInt8)) (gn cn gk ck : Nat) (cv : Value) : Array Value := #[.slice (some ⟨gn, 0, none⟩) n cn, .slice (some ⟨gk, 0, none⟩) n ck, cv, .bool (decide (0 ≤ t.left)), .int .i64 (max t.left 0), .bool t.dark]
structure Lay (w : World) (p n : Nat) (t : Tray (List UInt8)) (F : Nat → Prop) (gn cn gk ck : Nat) (cv : Value) : Prop where
  box : w.heap[p]? = some (.cells (boxC n t gn cn gk ck cv) tTy (0, 0))
  now : w.ownsRow 0 tSe 128 (.slice (some ⟨gn, 0, none⟩) n cn) n (flat (disk n (t.kept ++ t.cache)))
  kept : w.ownsRow 0 tSe 128 (.slice (some ⟨gk, 0, none⟩) n ck) n (flat (disk n t.kept))
  cache : w.ownsRow 0 tWr 129 cv t.cache.length (wcells t.cache)
  fn : F gn
  fk : F gk
  fc : ∀ k, cv.ownBlock = some k → F k
  ne : gn ≠ gk
/-- A tray that lies in the blocks F. -/
structure IsT (w : World) (p n : Nat) (t : Tray (List UInt8)) (F : Nat → Prop) : Prop where
  num : 4 ≤ n ∧ n ≤ 4096
  left : -1 ≤ t.left ∧ t.left ≤ 1099511627776
  lenk : ∀ q ∈ t.kept, q.2.length = 128
  lenc : ∀ q ∈ t.cache, q.2.length = 128 ∧ 0 ≤ q.1 ∧ q.1 < n
  low : ∀ k, F k → k < w.heap.size
  fp : F p
  mem : ∃ gn cn gk ck cv, Lay w p n t F gn cn gk ck cv
section
variable {w x : World} {p n : Nat} {t : Tray (List UInt8)} {F G : Nat → Prop} {gn cn gk ck : Nat} {cv : Value}
theorem own_heap {base size m : Nat} {e : TypeId} {v : Value} {xs : List Value} (h : w.ownsRow base e size v m xs) {g : Nat} (hg : v.ownBlock = some g) : ∃ cur, w.heap[g]? = some (.cells cur e (0, 0)) := by
  rcases h.2 with ⟨rfl, -⟩ | ⟨g', cap, cur, rfl, -, hh, -⟩
  · cases hg
  · obtain rfl : g' = g := Option.some.inj hg
    exact ⟨cur, hh⟩
/-- Blocks of two types are apart. -/
theorem heap_ne {T U : TypeId} {c d : Array Value} {k l : Nat} (h1 : w.heap[k]? = some (.cells c T (0, 0))) (h2 : w.heap[l]? = some (.cells d U (0, 0))) (hn : T ≠ U) : k ≠ l := fun e => by
  subst e
  rw [h1] at h2
  injection Option.some.inj h2 with h3 h4
  exact hn h4
theorem Lay.turn (h : Lay w p n t F gn cn gk ck cv) (hp : F p) (ht : Turns G w x) (hF : ∀ k, F k → ¬ G k) : Lay x p n t F gn cn gk ck cv where
  box := ht.heap h.box (hF _ hp)
  now := own_turn h.now ht fun k hk => by obtain rfl : gn = k := Option.some.inj hk; exact hF _ h.fn
  kept := own_turn h.kept ht fun k hk => by obtain rfl : gk = k := Option.some.inj hk; exact hF _ h.fk
  cache := own_turn h.cache ht fun k hk => hF _ (h.fc k hk)
  fn := h.fn
  fk := h.fk
  fc := h.fc
  ne := h.ne
theorem IsT.turn (h : IsT w p n t F) (ht : Turns G w x) (hF : ∀ k, F k → ¬ G k) : IsT x p n t F where
  num := h.num
  left := h.left
  lenk := h.lenk
  lenc := h.lenc
  low := fun k hk => Nat.lt_of_lt_of_le (h.low k hk) ht.size
  fp := h.fp
  mem := by
    obtain ⟨gn, cn, gk, ck, cv, hl⟩ := h.mem
    exact ⟨gn, cn, gk, ck, cv, hl.turn h.fp ht hF⟩
theorem IsT.below (h : IsT w p n t F) (hb : Below w.heap.size w x) : IsT x p n t F := h.turn (G := fun _ => False) (Turns.of_below hb) fun _ _ h => h
theorem Lay.mono (h : Lay w p n t F gn cn gk ck cv) (hF : ∀ k, F k → G k) : Lay w p n t G gn cn gk ck cv :=
  ⟨h.box, h.now, h.kept, h.cache, hF _ h.fn, hF _ h.fk, fun k hk => hF k (h.fc k hk), h.ne⟩
theorem IsT.mono (h : IsT w p n t F) (hF : ∀ k, F k → G k) (hG : ∀ k, G k → k < w.heap.size) : IsT w p n t G where
  num := h.num
  left := h.left
  lenk := h.lenk
  lenc := h.lenc
  low := hG
  fp := hF _ h.fp
  mem := by
    obtain ⟨gn, cn, gk, ck, cv, hl⟩ := h.mem
    exact ⟨gn, cn, gk, ck, cv, hl.mono hF⟩
theorem IsT.grow {u : World} (h : IsT x p n t F) : IsT x p n t (Grow F u x) := h.mono (fun _ h => .inl h) fun k hk => hk.elim (h.low k) fun h => h.2
theorem Lay.apart (h : Lay w p n t F gn cn gk ck cv) : p ≠ gn ∧ p ≠ gk ∧ (∀ k, cv.ownBlock = some k → p ≠ k ∧ k ≠ gn ∧ k ≠ gk) := by
  obtain ⟨a, ha⟩ := own_heap h.now (g := gn) rfl
  obtain ⟨b, hb⟩ := own_heap h.kept (g := gk) rfl
  refine ⟨heap_ne h.box ha (by decide), heap_ne h.box hb (by decide), fun k hk => ?_⟩
  obtain ⟨c, hc⟩ := own_heap h.cache hk
  exact ⟨heap_ne h.box hc (by decide), heap_ne hc ha (by decide), heap_ne hc hb (by decide)⟩
theorem boxC_cells (h : w.heap[p]? = some (.cells (boxC n t gn cn gk ck cv) tTy (0, 0))) : w.cell? ⟨p, 0, none⟩ = some (.slice (some ⟨gn, 0, none⟩) n cn) ∧ w.cell? ⟨p, 1, none⟩ = some (.slice (some ⟨gk, 0, none⟩) n ck) ∧ w.cell? ⟨p, 2, none⟩ = some cv ∧
    w.cell? ⟨p, 3, none⟩ = some (.bool (decide (0 ≤ t.left))) ∧ w.cell? ⟨p, 4, none⟩ = some (.int .i64 (max t.left 0)) ∧ w.cell? ⟨p, 5, none⟩ = some (.bool t.dark) := by
  refine ⟨?_, ?_, ?_, ?_, ?_, ?_⟩ <;> (rw [Lib.cell_of_heap h]; rfl)
theorem boxC_free (h : w.heap[p]? = some (.cells (boxC n t gn cn gk ck cv) tTy (0, 0))) (j : Nat) : w.frozen? ⟨p, j, none⟩ = false := Lib.frozen_of_heap h j
/-- Another box in its place, with the same rows. -/
theorem IsT.rebox (h : IsT w p n t F) (hl : Lay w p n t F gn cn gk ck cv) {t' : Tray (List UInt8)} (h1 : t'.kept = t.kept) (h2 : t'.cache = t.cache) (h3 : -1 ≤ t'.left ∧ t'.left ≤ 1099511627776) (ht : Turns (fun k => k = p) w x)
    (hb : x.heap[p]? = some (.cells (boxC n t' gn cn gk ck cv) tTy (0, 0))) : IsT x p n t' F where
  num := h.num
  left := h3
  lenk := by rw [h1]; exact h.lenk
  lenc := by rw [h2]; exact h.lenc
  low := fun k hk => Nat.lt_of_lt_of_le (h.low k hk) ht.size
  fp := h.fp
  mem := by
    obtain ⟨a1, a2, a3⟩ := hl.apart
    refine ⟨gn, cn, gk, ck, cv, hb, ?_, ?_, ?_, hl.fn, hl.fk, hl.fc, hl.ne⟩
    · rw [h1, h2]
      exact own_turn hl.now ht fun k hk => by obtain rfl : gn = k := Option.some.inj hk; exact fun e => a1 e.symm
    · rw [h1]
      exact own_turn hl.kept ht fun k hk => by obtain rfl : gk = k := Option.some.inj hk; exact fun e => a2 e.symm
    · rw [h2]
      exact own_turn hl.cache ht fun k hk e => (a3 k hk).1 e.symm
end

/-! ### types -/
theorem secElem : ∃ i b, IsElem Try.prog tSs tSe i (.agg (sec nul)) 128 b ∧ b ≤ 128 := by
  refine ⟨_, _, ⟨by kernel_rfl, rfl, by kernel_rfl, by kernel_rfl, rfl, by kernel_rfl, by omega⟩, ?_⟩
  exact of_decide_eq_true (by kernel_rfl)
theorem wrElem : ∃ i z b, IsElem Try.prog tWs tWr i z 129 b ∧ b ≤ 200 := by
  refine ⟨_, _, _, ⟨by kernel_rfl, rfl, rfl, by kernel_rfl, rfl, by kernel_rfl, by omega⟩, ?_⟩
  exact of_decide_eq_true (by kernel_rfl)
theorem info_se : (Try.prog.info? tSe).map (·.size) = some 128 := by kernel_rfl
theorem zero_se (W : World) : (zeroValue tSe).run Try.prog W = .ok (.agg (sec nul)) W := by kernel_rfl
end Ta
end Go.Proofs.Ytdodmjcbjknneaa
