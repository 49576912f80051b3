/-
  Layer 12, TrayKeeps: its notes of what was kept and of what lies in the cache, and its list of yes.
-/
import Derived.Test.YtamomojjodknaaaLawT12T
namespace Go.Proofs.Ytamomojjodknaaa
open Go.RowKit
namespace Ta
open Knot (Turns NewRow)
open Tr (IsElem append_rows walk_rows own_turn own_below own_slice own_open addp)
abbrev tNo : TypeId := 54
abbrev tNs : TypeId := 52
abbrev tBo : TypeId := 4
/-- Notes one behind the other. -/
def ncells (l : List (Int × List UInt8)) : List Value := l.flatMap fun p => [.int .i64 p.1, .string (str p.2)]
theorem ncells_append (l m : List (Int × List UInt8)) : ncells (l ++ m) = ncells l ++ ncells m := List.flatMap_append
theorem ncells_len (l : List (Int × List UInt8)) : (ncells l).length = l.length * 2 := by
  induction l with
  | nil => rfl
  | cons b l ih =>
    simp only [ncells, List.flatMap_cons, List.length_append, List.length_cons, List.length_nil] at ih ⊢
    rw [ih]
    omega
theorem ncells_at {l : List (Int × List UInt8)} {k : Nat} (hk : k < l.length) : (ncells l)[k * 2]? = some (.int .i64 l[k].1) ∧ (ncells l)[k * 2 + 1]? = some (.string (str l[k].2)) := by
  induction l generalizing k with
  | nil => simp at hk
  | cons b l ih =>
    show ([Value.int .i64 b.1, .string (str b.2)] ++ ncells l)[_]? = _ ∧ ([Value.int .i64 b.1, .string (str b.2)] ++ ncells l)[_]? = _
    cases k with
    | zero => exact ⟨rfl, rfl⟩
    | succ k =>
      have h2 := ih (k := k) (by simpa using hk)
      refine ⟨?_, ?_⟩
      · rw [List.getElem?_append_right (by simp; omega)]
        show (ncells l)[(k + 1) * 2 - 2]? = _
        rw [show (k + 1) * 2 - 2 = k * 2 by omega]
        exact h2.1
      · rw [List.getElem?_append_right (by simp; omega)]
        show (ncells l)[(k + 1) * 2 + 1 - 2]? = _
        rw [show (k + 1) * 2 + 1 - 2 = k * 2 + 1 by omega]
        exact h2.2
theorem one_notes (l : List (Int × List UInt8)) : ∀ u ∈ ncells l, u.oneCell' = true := fun u hu => by
  obtain ⟨b, -, hb⟩ := List.mem_flatMap.1 hu
  simp only [List.mem_cons, List.not_mem_nil, or_false] at hb
  rcases hb with rfl | rfl <;> rfl
theorem noElem : ∃ i z b, IsElem Try.prog tNs tNo i z 2 b ∧ b ≤ 200 := by
  refine ⟨_, _, _, ⟨by kernel_rfl, rfl, rfl, by kernel_rfl, rfl, by kernel_rfl, by omega⟩, ?_⟩
  exact of_decide_eq_true (by kernel_rfl)
section
variable {w x y z : World} {p : Nat} {t : Tray (List UInt8)} {F : Nat → Prop} {kv cv kv' cv' : Value} {ga len j B : Nat} {xs : List Value}
theorem note_at {v : Value} {l : List (Int × List UInt8)} (h : x.ownsRow B tNo 2 v l.length (ncells l)) {i : Nat} (hi : i < l.length) :
    ∃ g, v.ownBlock = some g ∧ (∀ W, (Instr.indexAt tNs v (.int .i64 (i : Int))).run Try.prog W = .ok (.pointer (some ⟨g, i * 2, none⟩)) W) ∧ x.cell? ⟨g, i * 2, none⟩ = some (.int .i64 l[i].1) ∧ x.cell? ⟨g, i * 2 + 1, none⟩ = some (.string (str l[i].2)) := by
  rcases h.2 with ⟨-, h0⟩ | ⟨g, cap, cur, rfl, hb, hg, hn, hc, hs, ht⟩
  · omega
  · have hr : x.ownsRow B tNo 2 (.slice (some ⟨g, 0, none⟩) l.length cap) l.length (ncells l) := ⟨h.1, .inr ⟨g, cap, cur, rfl, hb, hg, hn, hc, hs, ht⟩⟩
    refine ⟨g, rfl, fun W => ?_, ?_, ?_⟩
    · have hz : ∀ w, (sizeOf (Try.prog.elem tNs)).run Try.prog w = .ok 2 w := fun w => by kernel_rfl
      have : l.length ≤ 9223372036854775807 := Nat.le_trans hn (Nat.le_trans hc (by decide))
      rw [run_indexAt_slice W _ _ _ _ _ _ Try.underlying52, if_pos ⟨by omega, by omega⟩, hz]
      have e : ((i : Int)).toNat = i := by omega
      simp only [Result.andThen_ok, e, Addr.add_lit, Nat.zero_add]
    · rw [hr.cellAt _ (by omega)]; exact (ncells_at hi).1
    · rw [hr.cellAt _ (by omega)]; exact (ncells_at hi).2
theorem own_base {B' n c : Nat} {e : TypeId} {v : Value} (h : x.ownsRow B e c v n xs) (hB : B' ≤ B) : x.ownsRow B' e c v n xs := by
  refine ⟨h.1, ?_⟩
  rcases h.2 with h0 | ⟨g, cap, cur, hv, hg, r⟩
  · exact .inl h0
  · exact .inr ⟨g, cap, cur, hv, Nat.le_trans hB hg, r⟩

/-- What TrayKeeps has behind j acts. -/
structure Kp (w y : World) (p : Nat) (t : Tray (List UInt8)) (F : Nat → Prop) (kv cv : Value) (ga len j : Nat) (xs : List Value) : Prop where
  below : Below w.heap.size w y
  is : IsT y p 16 t F
  new : ∀ k, F k → w.heap.size ≤ k
  left : t.left = -1
  few : t.cache.length + t.kept.length ≤ j
  kept : y.ownsRow w.heap.size tNo 2 kv t.kept.length (ncells t.kept)
  cache : y.ownsRow w.heap.size tNo 2 cv t.cache.length (ncells t.cache)
  offk : ∀ k, kv.ownBlock = some k → ¬ F k ∧ cv.ownBlock ≠ some k
  offc : ∀ k, cv.ownBlock = some k → ¬ F k
  all : y.ownsRow w.heap.size tBo 1 (.slice (some ⟨ga, 0, none⟩) len len) len xs
  offa : ¬ F ga
theorem Kp.on (h : Kp w y p t F kv cv ga len j xs) (hb : Below y.heap.size y z) : Kp w z p t F kv cv ga len j xs :=
  { h with below := h.below.trans (hb.mono h.below.size), is := h.is.below hb, kept := own_below h.kept hb, cache := own_below h.cache hb, all := own_below h.all hb }
theorem Kp.more {i : Nat} (h : Kp w y p t F kv cv ga len j xs) (hi : j ≤ i) : Kp w y p t F kv cv ga len i xs := { h with few := Nat.le_trans h.few hi }
theorem Kp.apart (h : Kp w y p t F kv cv ga len j xs) : (∀ k, kv.ownBlock = some k → k ≠ ga) ∧ ∀ k, cv.ownBlock = some k → k ≠ ga := by
  obtain ⟨a, ha⟩ := own_heap h.all (g := ga) rfl
  refine ⟨fun k hk => ?_, fun k hk => ?_⟩
  · obtain ⟨b, hb⟩ := own_heap h.kept hk
    exact heap_ne hb ha (by decide)
  · obtain ⟨b, hb⟩ := own_heap h.cache hk
    exact heap_ne hb ha (by decide)
/-- One more yes. -/
theorem Kp.mark (h : Kp w y p t F kv cv ga len j xs) (i : Nat) (u : Value) : Kp w (y.setCell ⟨ga, i, none⟩ u) p t F kv cv ga len j (xs.set i u) := by
  obtain ⟨h1, h2⟩ := h.all.stored i u
  have ht : Turns (fun k => k = ga) y (y.setCell ⟨ga, i, none⟩ u) := Turns.of_grown h2 fun k hk => (Option.some.inj hk).symm
  have hga := (h.all.lt ga rfl).1
  exact { h with
    below := h.below.trans (ht.below h.below.size fun k e => by rw [e]; exact hga)
    is := h.is.turn ht fun k hk e => h.offa (e ▸ hk)
    kept := own_turn h.kept ht fun k hk => h.apart.1 k hk
    cache := own_turn h.cache ht fun k hk => h.apart.2 k hk
    all := h1 }
/-- Behind a flush: the notes of the cache are kept. -/
theorem Kp.flushed {z' : World} (h : Kp w y p t F kv cv ga len j xs) (ht : Turns F y z) (hi : IsT z p 16 t.flush F) (o : z'.ownsRow w.heap.size tNo 2 kv' (t.kept.length + t.cache.length) (ncells t.kept ++ ncells t.cache)) (g : z.grownBy z' kv.ownBlock) (n : NewRow z kv kv') :
    Kp w z' p t.flush F kv' (.slice none 0 0) ga len j xs := by
  have t2 : Turns (fun k => kv.ownBlock = some k) z z' := Turns.of_grown g fun k hk => hk
  have e : t.flush = { t.less with kept := t.kept ++ t.cache, cache := [] } := by unfold Tray.flush; rw [if_neg (by rw [h.left]; decide)]
  have hz := ht.size
  have hB := h.below.size
  refine ⟨(h.below.trans (ht.below hB h.new)).trans (t2.below (Nat.le_trans hB hz) fun k hk => (h.kept.lt k hk).1), hi.turn t2 fun k hk hf => (h.offk k hf).1 hk, h.new, Tray.flush_left h.left, ?_, ?_, ?_, fun k hk => ⟨fun hf => ?_, fun c => nomatch c⟩, (fun k hk => nomatch hk), ?_, h.offa⟩
  · have := h.few
    rw [e]
    show ([] : List (Int × List UInt8)).length + (t.kept ++ t.cache).length ≤ j
    rw [List.length_append]
    simp only [List.length_nil]
    omega
  · rw [e]
    show z'.ownsRow w.heap.size tNo 2 kv' (t.kept ++ t.cache).length (ncells (t.kept ++ t.cache))
    rw [List.length_append, ncells_append]
    exact o
  · rw [e]
    exact World.ownsRow_nil _ _ _ _
  · rcases n k hk with hk | hk
    · exact (h.offk k hk).1 hf
    · have := hi.low k hf
      omega
  · exact own_turn (own_turn h.all ht fun k hk => by obtain rfl : ga = k := Option.some.inj hk; exact h.offa) t2 fun k hk hf => by
      obtain rfl : ga = k := Option.some.inj hk
      exact h.apart.1 ga hf rfl
/-- Behind a write that was not done. -/
theorem Kp.refused (h : Kp w y p t F kv cv ga len j xs) (ht : Turns F y z) (hi : IsT z p 16 t (Grow F y z)) : Kp w z p t (Grow F y z) kv cv ga len j xs := by
  have hB := h.below.size
  have off : ∀ k, k < y.heap.size → ¬ F k → ¬ Grow F y z k := fun k hk hn hg => hg.elim hn fun hg => by omega
  exact ⟨h.below.trans (ht.below hB h.new), hi, fun k hk => hk.elim (h.new k) fun hk => by omega, h.left, h.few, own_turn h.kept ht fun k hk => (h.offk k hk).1, own_turn h.cache ht fun k hk => h.offc k hk,
    fun k hk => ⟨off k (h.kept.lt k hk).2 (h.offk k hk).1, (h.offk k hk).2⟩, fun k hk => off k (h.cache.lt k hk).2 (h.offc k hk),
    own_turn h.all ht fun k hk => by obtain rfl : ga = k := Option.some.inj hk; exact h.offa, off ga (h.all.lt ga rfl).2 h.offa⟩
/-- Behind a write that was done: its note lies behind the others. -/
theorem Kp.written {z2 z' : World} (h : Kp w y p t F kv cv ga len j xs) {k : Int} {b : List UInt8} (ht : Turns F y z) (hi : IsT z p 16 (t.put k b) (Grow F y z)) (hb : Below z.heap.size z z2)
    (o : z'.ownsRow w.heap.size tNo 2 cv' (t.cache.length + 1) (ncells t.cache ++ [.int .i64 k, .string (str b)])) (g : z2.grownBy z' cv.ownBlock) (n : NewRow z2 cv cv') : Kp w z' p (t.put k b) (Grow F y z) kv cv' ga len (j + 1) xs := by
  have t2 : Turns (fun k => cv.ownBlock = some k) z2 z' := Turns.of_grown g fun k hk => hk
  have e : t.put k b = { t.less with cache := t.cache ++ [(k, b)] } := by unfold Tray.put; rw [if_neg (by rw [h.left]; decide)]
  have hz := ht.size
  have hz2 := hb.size
  have hB := h.below.size
  have off : ∀ k, k < y.heap.size → ¬ F k → ¬ Grow F y z k := fun k hk hn hg => hg.elim hn fun hg => by omega
  have t3 : Turns F y z2 := ht.then_below hb
  refine ⟨(h.below.trans (t3.below hB h.new)).trans (t2.below (by omega) fun k hk => (h.cache.lt k hk).1), (hi.below hb).turn t2 fun i hk hf => off i (h.cache.lt i hf).2 (h.offc i hf) hk, fun i hk => hk.elim (h.new i) fun hk => by omega, Tray.put_left h.left k b, ?_, ?_, ?_, fun i hk => ⟨off i (h.kept.lt i hk).2 (h.offk i hk).1, fun c => ?_⟩, fun i hk hf => ?_, ?_, off ga (h.all.lt ga rfl).2 h.offa⟩
  · have := h.few
    rw [e]
    show (t.cache ++ [(k, b)]).length + t.kept.length ≤ j + 1
    rw [List.length_append]
    simp only [List.length_cons, List.length_nil]
    omega
  · rw [e]
    exact own_turn (own_turn h.kept t3 fun i hk => (h.offk i hk).1) t2 fun i hk hf => (h.offk i hk).2 hf
  · rw [e]
    show z'.ownsRow w.heap.size tNo 2 cv' (t.cache ++ [(k, b)]).length (ncells (t.cache ++ [(k, b)]))
    rw [List.length_append, ncells_append]
    exact o
  · rcases n i c with hc | hc
    · exact (h.offk i hk).2 hc
    · have := (h.kept.lt i hk).2
      omega
  · rcases n i hk with hc | hc
    · exact off i (h.cache.lt i hc).2 (h.offc i hc) hf
    · have := hi.low i hf
      omega
  · exact own_turn (own_turn h.all t3 fun i hk => by obtain rfl : ga = i := Option.some.inj hk; exact h.offa) t2 fun i hk hf => by
      obtain rfl : ga = i := Option.some.inj hk
      exact h.apart.2 ga hf rfl
theorem walk_none {P : Program} {ops : Array Oper} {rest : List Oper} {o : Oper} {a : Go.Act} {Q : Exit → Go.Act → World → Prop} {tt e : TypeId} {i : TypeInfo} {zz : Value} {sz by' n : Nat} {v : Value} (T : IsElem P tt e i zz sz by') (hgd : o.guard = none) (s q : Operand) (ho : o.op = .call { callee := .builtin .append, args := #[s, q], argTypes := #[tt, tt] })
    (hs : a.eval s = v) (hx : a.eval q = .slice none 0 0) (hown : w.ownsRow B e sz v n xs) (hz : n ≤ 100000000) (h : wpList P ops Q rest (a.put o.dst v) w) : wpList P ops Q (o :: rest) a w :=
  wpList_plain hgd fun _ hK => Tr.wp_none T s q ho hs hx hown hz (hK _ _ h)
theorem grown_refl (w : World) (r : Option Nat) : w.grownBy w r := ⟨rfl, rfl, rfl, Nat.le_refl _, fun _ _ _ => rfl⟩
/-- A list of yes and no that a call made. -/
theorem make_flags (n : Nat) (hn : n ≤ 100000) (W : World) : (Instr.makeSlice 34 (.int .i64 (n : Int)) (.int .i64 (n : Int))).run Try.prog W = .ok (.slice (some ⟨W.heap.size, 0, none⟩) n n) (W.alloc (.cells (List.replicate n (Value.bool false)).toArray tBo)) := by
  obtain ⟨i, b, T, hb⟩ : ∃ i b, IsElem Try.prog 34 tBo i (.bool false) 1 b ∧ b ≤ 8 := by
    refine ⟨_, _, ⟨by kernel_rfl, rfl, by kernel_rfl, by kernel_rfl, rfl, rfl, by omega⟩, ?_⟩
    exact of_decide_eq_true (by kernel_rfl)
  have hmk := run_make (P := Try.prog) W 34 tBo i (.bool false) T.under T.info T.zero .i64 .i64 (n : Int) (n : Int) (by omega) (Int.le_refl _) (by
    rw [T.bytes]
    have h1 : (b : Int) ≤ 8 := by omega
    have h2 : (b : Int) * n ≤ 8 * n := Int.mul_le_mul_of_nonneg_right h1 (by omega)
    omega) (by omega)
  rw [T.size, Int.toNat_natCast, Nat.mul_one] at hmk
  rw [hmk]
  have e : madeCells (Value.cells (.bool false)) n = (List.replicate n (Value.bool false)).toArray := by
    refine Array.toList_inj.1 ?_
    refine List.eq_replicate_iff.2 ⟨by simp [size_madeCells], fun u hu => ?_⟩
    simp only [madeCells, Array.toList_map, List.mem_map] at hu
    obtain ⟨k, -, rfl⟩ := hu
    have hs : (Value.cells (.bool false)).size = 1 := rfl
    rw [hs, Nat.mod_one]
    rfl
  rw [e]
theorem flags_row {n c : Nat} {l : List Bool} {g : Nat} (h : x.ownsRow B tBo 1 (.slice (some ⟨g, 0, none⟩) n c) n (l.map Value.bool)) (hl : l.length = n) : IsFlags x (.slice (some ⟨g, 0, none⟩) n c) l := by
  rcases h.2 with ⟨h0, -⟩ | ⟨g', cap, cur, hv, hb, hg, hn, hc, hs, ht⟩
  · cases h0
  · have hr : x.ownsRow B tBo 1 (.slice (some ⟨g, 0, none⟩) n c) n (l.map Value.bool) := h
    obtain ⟨rfl, -, rfl⟩ : g = g' ∧ n = n ∧ c = cap := by simpa using hv
    subst hl
    refine ⟨_, c, rfl, hn, hc, fun _ => ⟨g, 0, rfl, fun j u hj => ?_⟩⟩
    have hj' : j < l.length := by have := (List.getElem?_eq_some_iff.1 hj).1; simpa using this
    rw [Nat.zero_add, hr.cellAt j (by omega)]
    exact hj
theorem flags_none (x : World) : IsFlags x (.slice none 0 0) [] := ⟨none, 0, rfl, Nat.le_refl _, Nat.zero_le _, fun h => absurd rfl h⟩
/-- 128 noughts as a list. -/
theorem make_nul (W : World) : (Instr.makeSlice 33 (.int .i64 128) (.int .i64 128)).run Try.prog W = .ok (.slice (some ⟨W.heap.size, 0, none⟩) 128 128) (W.alloc (.cells (sec nul) 5)) := by kernel_rfl
theorem note_build (k : Int) (s : ByteArray) (W : World) : (Instr.buildSlice tNs 1 #[(0, .agg #[.int .i64 k, .string s])]).run Try.prog W = .ok (.slice (some ⟨W.heap.size, 0, none⟩) 1 1) (W.alloc (.cells #[.int .i64 k, .string s] tNo)) := by kernel_rfl
end
end Ta
end Go.Proofs.Ytamomojjodknaaa
