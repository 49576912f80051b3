/-
  Layer 12's statements: lists of acts and of choices as arguments: where their cells lie, and that no list is longer than the argument's bulk.
  Layer 12: the program's tray: Write.
  Layer 12: the program's tray: Flush.
  Layer 12: the program's tray: Lose.
  Layer 12: the document's example, walked; what the statements need of a tray in the blocks that the call made.
-/
import Derived.Test.YtkfmmdiflbnhgaaInA
import Derived.Test.YtkfmmdiflbnhgaaTgA
import Derived.LaidSub
import Derived.Deep.Slices
import Derived.Deep.Grids
import Derived.Lib.UnsafeStr
import Derived.Test.YtkfmmdiflbnhgaaTgB
import Derived.Lib.SmallJoins
namespace Go.Proofs.Ytkfmmdiflbnhgaa
set_option maxRecDepth 100000
open Go.ChangeShapes Go.WideShapes Go.ChangeAt Go.RowKit Go.Joins Go.Deep
namespace Ta

/-- A slice over so many cells: where it is not empty it lies plainly, and its cells are these. -/
def Row (w : World) (v : Value) (n : Nat) (us : List Value) : Prop :=
  ∃ ao cap, v = .slice ao n cap ∧ n ≤ cap ∧ cap ≤ maxLen ∧ (n ≠ 0 → ∃ b o, ao = some ⟨b, o, none⟩ ∧ ∀ j u, us[j]? = some u → w.cell? ⟨b, o + j, none⟩ = some u)
/-- A list of bytes that came in. -/
def IsBytes (w : World) (v : Value) (l : List UInt8) : Prop := Row w v l.length (Lib.byteCells l)
/-- A list of choices that came in. -/
def IsFlags (w : World) (v : Value) (l : List Bool) : Prop := Row w v l.length (l.map .bool)
/-- What an act holds. -/
structure Act where
  kind : Int
  at_ : Int
  b : List UInt8
  c : List Bool
instance : Inhabited Act := ⟨⟨0, 0, [], []⟩⟩
/-- The four cells of an act: its list of bytes, its list of choices. -/
def IsAct (w : World) (cs : List Value) (a : Act) : Prop :=
  ∃ vb vc, cs = [.int .i64 a.kind, .int .i64 a.at_, vb, vc] ∧ IsBytes w vb a.b ∧ IsFlags w vc a.c ∧ (Lit.int .i64 a.kind).wf = true ∧ (Lit.int .i64 a.at_).wf = true
/-- A list of acts that came in. -/
def IsActs (w : World) (v : Value) (l : List Act) : Prop :=
  ∃ ao cap, v = .slice ao l.length cap ∧ l.length ≤ cap ∧ cap ≤ maxLen ∧ (l ≠ [] → ∃ b o, ao = some ⟨b, o, none⟩ ∧ ∀ (i : Nat) (h : i < l.length), ∃ cs, IsAct w cs l[i] ∧ ∀ j u, cs[j]? = some u → w.cell? ⟨b, o + i * 4 + j, none⟩ = some u)

section
variable {w x : World} {v : Value}
theorem Row.below {n : Nat} {us : List Value} (h : Row w v n us) (hb : Below w.heap.size w x) : Row x v n us := by
  obtain ⟨ao, cap, hv, h1, h2, h3⟩ := h
  refine ⟨ao, cap, hv, h1, h2, fun hn => ?_⟩
  obtain ⟨b, o, e, hc⟩ := h3 hn
  refine ⟨b, o, e, fun j u hj => ?_⟩
  have h1 := hc j u hj
  exact (hb.cell (World.block_lt_of_cell? w _ h1)).trans h1
theorem IsAct.below {cs : List Value} {a : Act} (h : IsAct w cs a) (hb : Below w.heap.size w x) : IsAct x cs a := by
  obtain ⟨vb, vc, e, h1, h2, h3⟩ := h
  exact ⟨vb, vc, e, Row.below h1 hb, Row.below h2 hb, h3⟩
theorem IsActs.below {l : List Act} (h : IsActs w v l) (hb : Below w.heap.size w x) : IsActs x v l := by
  obtain ⟨ao, cap, hv, h1, h2, h3⟩ := h
  refine ⟨ao, cap, hv, h1, h2, fun hn => ?_⟩
  obtain ⟨b, o, e, hc⟩ := h3 hn
  refine ⟨b, o, e, fun i hi => ?_⟩
  obtain ⟨cs, ha, hx⟩ := hc i hi
  refine ⟨cs, ha.below hb, fun j u hj => ?_⟩
  have h1 := hx j u hj
  exact (hb.cell (World.block_lt_of_cell? w _ h1)).trans h1
end

theorem cellsByte : Try.prog.cellsOf 5 = 1 := by kernel_rfl
theorem cellsBool : Try.prog.cellsOf 4 = 1 := by kernel_rfl
theorem cellsInt : Try.prog.cellsOf 3 = 1 := by kernel_rfl
theorem cellsBs : Try.prog.cellsOf 22 = 1 := by kernel_rfl
theorem cellsFs : Try.prog.cellsOf 50 = 1 := by kernel_rfl
section
variable {H : Type} {enc : TypeId × Value → H} {W : World} {base : Nat} {held : Bool}
theorem bulk_pos (d : DataW H) : 1 ≤ Rows.uptoBulk d := by
  cases d with
  | lit x => cases x <;> simp [Rows.uptoBulk]
  | _ => simp [Rows.uptoBulk]
theorem bulk_mem : ∀ {ds : List (DataW H)} {d : DataW H}, d ∈ ds → Rows.uptoBulk d ≤ Rows.uptoBulkAll ds
  | e :: ds, d, h => by
    rw [Rows.uptoBulkAll]
    rcases List.mem_cons.1 h with rfl | h
    · omega
    · have := bulk_mem h; omega
theorem bulk_len : ∀ (ds : List (DataW H)), ds.length ≤ Rows.uptoBulkAll ds
  | [] => Nat.zero_le _
  | e :: ds => by
    rw [Rows.uptoBulkAll, List.length_cons]
    have := bulk_len ds
    have := bulk_pos e
    omega
theorem add_at (b o i : Nat) : (⟨b, o, none⟩ : Addr).add i = ⟨b, o + i, none⟩ := by unfold Addr.add; split <;> simp_all
/-- A slice that holds a cell lies plainly. -/
theorem plain {a : Addr} {u : Value} (h : W.cell? (a.add 0) = some u) : ∃ b o, a = ⟨b, o, none⟩ := by
  obtain ⟨b, o, s⟩ := a
  obtain rfl : s = none := by simpa [Addr.add] using World.cell?_spot h
  exact ⟨b, o, rfl⟩

set_option maxRecDepth 100000 in
theorem bytes_cells {fuel : Nat} {cs : List Value} {y : DataW H × List MemPlace} (h : DataW.trod enc Try.prog W base (fun _ => true) held fuel 22 cs = some y) : ∃ v l, cs = [v] ∧ IsBytes W v l ∧ l.length ≤ Rows.uptoBulk y.1 := by
  rcases open_ints Try.underlying22 Try.underlying5 cellsByte h with ⟨rfl, -⟩ | ⟨a, len, cap, zs, rfl, _, hl, hm, hz, hy, hcell, hwz⟩
  · exact ⟨_, [], rfl, ⟨none, 0, rfl, Nat.le_refl _, Nat.zero_le _, fun h => absurd rfl h⟩, Nat.zero_le _⟩
  · simp only [if_true] at hz
    have hlen : ((zs.take len).map fun n => UInt8.ofNat n.toNat).length = len := by simp; omega
    have hb : len ≤ Rows.uptoBulk y.1 := by
      rw [hy]
      simp only [Rows.uptoBulk]
      have := bulk_len (H := H) (lits .u8 (zs.take len))
      have e : (lits (H := H) .u8 (zs.take len)).length = len := by simp [lits]; omega
      omega
    refine ⟨_, (zs.take len).map fun n => UInt8.ofNat n.toNat, rfl, ⟨some a, cap, by rw [hlen], by omega, hm, fun hn => ?_⟩, by omega⟩
    rw [hlen] at hn
    obtain ⟨b, o, rfl⟩ := plain (hcell 0 (by omega))
    refine ⟨b, o, rfl, fun j u hj => ?_⟩
    have hjl : j < len := by
      have := (List.getElem?_eq_some_iff.1 hj).1
      rwa [Lib.byteCells_length, hlen] at this
    have hr := range_u8 hwz j
    have hzj : zs[j]? = some (zs[j]'(by omega)) := List.getElem?_eq_getElem (by omega)
    rw [hzj, Option.getD_some] at hr
    rw [← add_at, hcell j (by omega), ← hj]
    simp only [Lib.byteCells, List.getElem?_map, List.getElem?_take, hjl, if_true, hzj, Option.map_some, List.getD, Option.getD_some]
    have e : ((UInt8.ofNat (zs[j]'(by omega)).toNat).toNat : Int) = zs[j]'(by omega) := by rw [UInt8.toNat_ofNat']; omega
    rw [e]
set_option maxRecDepth 100000 in
theorem flags_cells {fuel : Nat} {cs : List Value} {y : DataW H × List MemPlace} (h : DataW.trod enc Try.prog W base (fun _ => true) held fuel 50 cs = some y) : ∃ v l, cs = [v] ∧ IsFlags W v l ∧ l.length ≤ Rows.uptoBulk y.1 := by
  rcases open_slice1 Try.underlying50 cellsBool h with ⟨rfl, -⟩ | ⟨a, len, cap, m, n, V, D, Pl, rfl, -, hl, hm, hmm, rfl, hx⟩
  · exact ⟨_, [], rfl, ⟨none, 0, rfl, Nat.le_refl _, Nat.zero_le _, fun h => absurd rfl h⟩, Nat.zero_le _⟩
  · simp only [if_true] at hmm
    subst hmm
    obtain ⟨B, hB⟩ := choose_lt (α := Bool) (n := m) (p := fun i b => V i = .bool b) (fun i hi => by
      obtain ⟨b, h1, -⟩ := DataW.trod_bool Try.underlying4 (hx i hi).2
      exact ⟨b, by simpa using h1⟩)
    have hlen : ((List.range len).map B).length = len := by simp
    have hb := bulk_len ((List.range len).map D)
    refine ⟨_, (List.range len).map B, rfl, ⟨some a, m, by rw [hlen], by omega, hm, fun hn => ?_⟩, by rw [hlen]; simp only [Rows.uptoBulk]; simp at hb; omega⟩
    rw [hlen] at hn
    obtain ⟨b, o, rfl⟩ := plain (hx 0 (by omega)).1
    refine ⟨b, o, rfl, fun j u hj => ?_⟩
    have hjl : j < len := by
      have := (List.getElem?_eq_some_iff.1 hj).1
      simpa using this
    rw [← add_at, (hx j (by omega)).1, hB j (by omega), ← hj]
    simp [hjl]
set_option maxRecDepth 100000 in
theorem flags_arg {v : Value} {d : DataW H} {p : List MemPlace} (hv : Value.okWide Try.prog W .any base 50 v) (h : DataW.Trod enc Try.prog W 0 (fun _ => true) true 50 v d p) : ∃ l, IsFlags W v l ∧ l.length ≤ Rows.uptoBulk d := by
  obtain ⟨a1, len, cap, rfl⟩ := okWide_slice Try.underlying50 hv
  obtain ⟨fuel, hf⟩ := h
  simp only [Value.cells] at hf
  obtain ⟨v, l, e, h1, h2⟩ := flags_cells hf
  obtain rfl : _ = v := by simpa using e
  exact ⟨l, h1, h2⟩
end
end Ta
end Go.Proofs.Ytkfmmdiflbnhgaa

namespace Go.Proofs.Ytkfmmdiflbnhgaa
set_option maxRecDepth 100000
open Go.RowKit
namespace Ta
open Knot (Turns NewRow)
open Tr (IsElem append_rows wp_rows own_turn own_below own_slice own_open addp)

/-- Noughts behind. -/
def pad (b : List UInt8) : List UInt8 := b ++ List.replicate (128 - b.length) 0
theorem pad_len {b : List UInt8} (h : b.length ≤ 128) : (pad b).length = 128 := by simp [pad]; omega
/-- A write's cells. -/
def wrc (k : Int) (b : List UInt8) : Array Value := (Value.int .i64 k :: Lib.byteCells b).toArray
theorem wr_size {b : List UInt8} (h : b.length = 128) (k : Int) : (wrc k b).size = 129 := by simp [wrc, Lib.byteCells_length, h]
theorem wr_one (k : Int) (b : List UInt8) : (wrc k b).all (·.oneCell') = true := by
  rw [Array.all_eq_true_iff_forall_mem]
  intro v hv
  exact one_write (k, b) v (by simpa [wrc] using hv)
theorem build_wr (k : Int) (W : World) : (Instr.build tWr #[(0, .int .i64 k)]).run Try.prog W = .ok (.agg (wrc k nul)) W := by kernel_rfl
theorem zero_wr (W : World) : (zeroValue tWr).run Try.prog W = .ok (.agg (wrc 0 nul)) W := by kernel_rfl
theorem info_wr : (Try.prog.info? tWr).map (·.size) = some 129 := by kernel_rfl
theorem store_wr (W : World) (b : Nat) (j k : Int) (c c' : List UInt8) (hb : b = W.heap.size) (hc : c.length = 128) (hc' : c'.length = 128) : (storeCells ⟨b, 0, none⟩ (wrc k c').toList 0).run Try.prog (W.alloc (.cells (wrc j c) tWr)) = .ok () (W.alloc (.cells (wrc k c') tWr)) := by
  subst hb
  exact run_storeCells_new W tWr _ _ (by rw [wr_size hc']; exact info_wr) (by rw [wr_size hc, wr_size hc']) (wr_one _ _)
theorem splice_wr (k : Int) (b : List UInt8) : (splice (wrc k nul).toList 1 (Lib.byteCells b)).toArray = wrc k (pad b) := by
  have h1 : (wrc k nul).toList = Value.int .i64 k :: Lib.byteCells nul := by simp [wrc]
  unfold splice
  rw [h1, nul_cells, Lib.byteCells_length]
  have h2 : (Value.int .i64 k :: List.replicate 128 (Value.int .u8 0)).drop (1 + b.length) = List.replicate (128 - b.length) (Value.int .u8 0) := by
    rw [show 1 + b.length = b.length + 1 by omega, List.drop_succ_cons, List.drop_replicate]
  rw [h2]
  simp [wrc, pad, Lib.byteCells]
theorem wr_range {w : World} {g : Nat} {k : Int} {b : List UInt8} (h : w.heap[g]? = some (.cells (wrc k b) tWr (0, 0))) : w.rangeAt g 0 (wrc k b).toList := fun j v hj => by
  rw [Lib.cell_of_heap h, Nat.zero_add]
  simpa using hj
theorem wr_bytes {w : World} {g : Nat} {k : Int} {b : List UInt8} (h : w.heap[g]? = some (.cells (wrc k b) tWr (0, 0))) : w.rangeAt g 1 (Lib.byteCells b) := fun j v hj => by
  rw [Lib.cell_of_heap h, Nat.add_comm]
  simp only [wrc, List.getElem?_toArray, List.getElem?_cons_succ]
  exact hj
theorem load_se (W : World) (g q : Nat) (c : List UInt8) (hc : c.length = 128) (h : W.rangeAt g q (Lib.byteCells c)) : (Instr.loadAt tSe (.pointer (some ⟨g, q, none⟩))).run Try.prog W = .ok (.agg (sec c)) W :=
  run_loadAt_mid W g q tSe (Lib.byteCells c) _ h Try.underlying115 rfl (by rw [Lib.byteCells_length, hc]; exact info_se)
theorem load_wr (W : World) (g : Nat) (k : Int) (c : List UInt8) (hc : c.length = 128) (h : W.heap[g]? = some (.cells (wrc k c) tWr (0, 0))) : (Instr.loadAt tWr (.pointer (some ⟨g, 0, none⟩))).run Try.prog W = .ok (.agg (wrc k c)) W := by
  have := run_loadAt_mid (P := Try.prog) W g 0 tWr (wrc k c).toList _ (wr_range h) Try.underlying117 rfl (by rw [Array.length_toList, wr_size hc]; exact info_wr)
  rw [Array.toArray_toList] at this
  exact this
set_option maxRecDepth 100000 in
/-- One write as a list. -/
theorem one_wr (W : World) (k : Int) (c : List UInt8) (hc : c.length = 128) : (Instr.buildSlice tWs 1 #[(0, .agg (wrc k c))]).run Try.prog W = .ok (.slice (some ⟨W.heap.size, 0, none⟩) 1 1) (W.alloc (.cells (wrc k c) tWr)) := by
  obtain ⟨i, z, b, T, -⟩ := wrElem
  have hs := T.size
  obtain ⟨r, hr, h1, h2⟩ := Great.fill_dense (s := 129) (by omega) [.agg (wrc k c)] 0 ((Array.range (1 * i.size)).map (z.cells[· % z.cells.size]!)) (fun v hv => by
    rw [List.mem_singleton] at hv
    subst hv
    exact wr_size hc k) (by simp [hs])
  have e : r = wrc k c := by
    refine Array.ext_getElem? fun q => ?_
    have hq := h2 q
    by_cases hlt : q < 129
    · rw [if_pos (by simp; omega)] at hq
      have e1 : q / 129 = 0 := by omega
      have e2 : q % 129 = q := by omega
      rw [hq, e1, e2]
      rfl
    · rw [Array.getElem?_eq_none (by rw [h1]; simp [hs]; omega), Array.getElem?_eq_none (by rw [wr_size hc]; omega)]
  subst e
  exact run_buildSlice W tWs tWr 1 #[(0, .agg (wrc k c))] (wrc k c) i z T.under T.info T.zero (by rw [hs]; omega) (by rw [hs]; omega) (by rw [hs] at hr ⊢; exact hr)

/-- A tray that was written to, and the error. -/
def Tray.write (n : Nat) (t : Tray (List UInt8)) (k : Int) (b : List UInt8) : Tray (List UInt8) × Int :=
  if k < 0 ∨ n ≤ k ∨ 128 < b.length then (t, 1) else if t.left = 0 then (t.dim, 20) else (t.put k (pad b), 0)
section
variable {w : World} {p n : Nat} {t : Tray (List UInt8)} {F : Nat → Prop}
theorem write_range {k : Int} {b : List UInt8} (h : ¬ (0 ≤ k ∧ k < n) ∨ 128 < b.length) : t.write n k b = (t, 1) := by
  unfold Tray.write
  rw [if_pos]
  rcases h with h | h
  · by_cases h0 : k < 0
    · exact .inl h0
    · exact .inr (.inl (by omega))
  · exact .inr (.inr h)
/-- The tray behind a write: the sector is set, the write lies behind the others. -/
theorem put_mem {x1 x2 x3 x4 : World} {k : Int} {b : List UInt8} (h : IsT w p n t F) {gn cn gk ck : Nat} {cv v : Value} (hl : Lay w p n t F gn cn gk ck cv) (h0 : 0 ≤ k) (h1 : k < n) (hb : b.length = 128)
    (e1 : x1 = w.setCells gn (k.toNat * 128) (Lib.byteCells b)) (b2 : Below x1.heap.size x1 x2) (r3 : x3.ownsRow 0 tWr 129 v (t.cache.length + 1) (wcells t.cache ++ (wrc k b).toList)) (g3 : x2.grownBy x3 cv.ownBlock) (n3 : NewRow x2 cv v)
    (e4 : x4 = x3.setCell ⟨p, 2, none⟩ v) : Turns F w x4 ∧ IsT x4 p n { t with cache := t.cache ++ [(k, b)] } (Grow F w x4) := by
  obtain ⟨a1, a2, a3⟩ := hl.apart
  obtain ⟨s1, t1⟩ := own_set (Lib.byteCells b) (k.toNat * 128) hl.now
  rw [← e1] at s1 t1
  have hc : ∀ q ∈ t.kept ++ t.cache, q.2.length = 128 := fun q hq => (List.mem_append.1 hq).elim (h.lenk q) fun hq => (h.lenc q hq).1
  rw [flat_set (disk_all hc) (by rw [disk_len]; omega) hb, disk_set, show ((k.toNat : Nat) : Int) = k by omega, List.append_assoc] at s1
  have t2 : Turns F w x2 := (t1.mono (G := F) fun _ _ e => by rw [e]; exact hl.fn).then_below b2
  have t3 : Turns F w x3 := t2.trans (Turns.of_grown (F := fun k => cv.ownBlock = some k) g3 fun k hk => hk) fun k _ hk => hl.fc k hk
  have t34 : Turns (fun k => k = p) x3 x4 := by rw [e4]; exact turn_set _ _ _ _
  have t4 : Turns F w x4 := t3.trans t34 fun _ _ e => by rw [e]; exact h.fp
  have hw1 : w.heap.size ≤ x1.heap.size := t1.size
  have hw2 : w.heap.size ≤ x2.heap.size := t2.size
  have h14 : Turns (fun k => k = p ∨ cv.ownBlock = some k) x1 x4 := ((Turns.of_below (F := fun k => k = p ∨ cv.ownBlock = some k) b2).trans (Turns.of_grown (F := fun k => cv.ownBlock = some k) g3 fun k hk => hk) fun _ _ e => .inr e).trans t34 fun _ _ e => .inl e
  have hbx : x3.heap[p]? = some (.cells (boxC n t gn cn gk ck cv) tTy (0, 0)) := by
    have u2 : x2.heap[p]? = some (.cells (boxC n t gn cn gk ck cv) tTy (0, 0)) := (b2.block p (by have := h.low p h.fp; omega)).trans (t1.heap hl.box a1)
    exact (Turns.of_grown (F := fun k => cv.ownBlock = some k) g3 fun k hk => hk).heap u2 fun e => (a3 p e).1 rfl
  refine ⟨t4, h.num, h.left, h.lenk, fun q hq => ?_, fun j hj => ?_, .inl h.fp, gn, cn, gk, ck, v, ?_, ?_, ?_, ?_, .inl hl.fn, .inl hl.fk, fun j hj => ?_, hl.ne⟩
  · rcases List.mem_append.1 hq with hq | hq
    · exact h.lenc q hq
    · rw [List.mem_singleton] at hq
      subst hq
      exact ⟨hb, h0, h1⟩
  · rcases hj with hj | hj
    · exact Nat.lt_of_lt_of_le (h.low j hj) t4.size
    · exact hj.2
  · rw [e4, box_set hbx]
    rfl
  · exact own_turn s1 h14 fun j hj e => by
      obtain rfl : gn = j := Option.some.inj hj
      rcases e with e | e
      · exact a1 e.symm
      · exact (a3 gn e).2.1 rfl
  · refine own_turn (own_turn hl.kept t1 fun j hj e => ?_) h14 fun j hj e => ?_
    · obtain rfl : gk = j := Option.some.inj hj
      exact hl.ne e.symm
    · obtain rfl : gk = j := Option.some.inj hj
      rcases e with e | e
      · exact a2 e.symm
      · exact (a3 gk e).2.2 rfl
  · have e : (t.cache ++ [(k, b)]).length = t.cache.length + 1 := by simp
    show x4.ownsRow 0 tWr 129 v (t.cache ++ [(k, b)]).length (wcells (t.cache ++ [(k, b)]))
    have e' : wcells (t.cache ++ [(k, b)]) = wcells t.cache ++ (wrc k b).toList := by rw [wcells_append]; simp [wcells, wrc]
    rw [e, e']
    refine own_turn r3 t34 fun j hj e => ?_
    subst e
    rcases n3 j hj with hj | hj
    · exact (a3 j hj).1 rfl
    · have := h.low j h.fp; omega
  · rcases n3 j hj with h' | h'
    · exact .inl (hl.fc j h')
    · refine .inr ⟨by omega, ?_⟩
      have := (r3.lt j hj).2
      have := t34.size
      omega

set_option maxHeartbeats 4000000 in
set_option maxRecDepth 100000 in
theorem write_any (k : Int) (v : Value) (b : List UInt8) (h : IsT w p n t F) (hv : Stay F w fun x => IsBytes x v b) (hc : t.cache.length ≤ 100000) : Calls Try.prog 35 #[ptr p, .int .i64 k, v] w fun e x =>
    e = .returned (.int .i64 (t.write n k b).2) ∧ Turns F w x ∧ IsT x p n (t.write n k b).1 (Grow F w x) := by
  obtain ⟨ao, cap, rfl, hb1, hb2, hrow⟩ := hv.now
  by_cases hk : 0 ≤ k ∧ k < n
  · by_cases hb : 128 < b.length
    · rw [write_range (.inr hb)]
      have HH := Lib.hid (has_any k h)
      have HD := Lib.hid (show decide (0 ≤ k ∧ k < n) = true by simp only [decide_eq_true_eq]; exact hk)
      have hg : (128 : Int) < (b.length : Int) := by omega
      have H := Lib.hid h
      clear h hk hb hrow hv
      go_enter Try.func35, Try.ntmps35
      go_wp2_with fail
      refine HH.out.mono ?_
      rintro e x ⟨rfl, rfl⟩
      rw [HD.out]
      go_wp2_with fail
      go_ret
      exact ⟨rfl, Turns.refl _ _, H.out.grow⟩
    · have HH := Lib.hid (has_any k h)
      have HD := Lib.hid (show decide (0 ≤ k ∧ k < n) = true by simp only [decide_eq_true_eq]; exact hk)
      have hg : ¬ (128 : Int) < (b.length : Int) := by omega
      have HS := Lib.hid (step_any h)
      have H := Lib.hid (And.intro h (And.intro hk hb))
      have HR := Lib.hid (show ∀ x, Turns (fun k => k = p) w x → b.length ≠ 0 → ∃ bb o, ao = some ⟨bb, o, none⟩ ∧ ∀ j u, (Lib.byteCells b)[j]? = some u → x.cell? ⟨bb, o + j, none⟩ = some u from fun x hx => by
        obtain ⟨ao', cap', e, -, -, hr⟩ := hv x (hx.mono fun _ _ e => by rw [e]; exact h.fp)
        obtain ⟨rfl, -, rfl⟩ := Value.slice.inj e
        exact hr)
      by_cases h0 : t.left = 0
      · have HE := Lib.hid (show decide (t.left ≠ 0) = false by simp [h0])
        rw [show t.write n k b = (t.dim, 20) by unfold Tray.write; rw [if_neg (by omega), if_pos h0]]
        have HQ := Lib.hid (show t.step = t.dim by unfold Tray.step; rw [if_pos h0])
        clear h hk hb hrow hv h0
        go_enter Try.func35, Try.ntmps35
        go_wp2_with fail
        refine HH.out.mono ?_
        rintro e x ⟨rfl, rfl⟩
        rw [HD.out]
        go_wp2_with fail
        refine HS.out.mono ?_
        rintro e x1 ⟨rfl, ht, hx⟩
        rw [HE.out]
        rw [HQ.out] at hx
        have HX := Lib.hid (And.intro ht hx)
        clear ht hx
        go_wp2_with fail
        go_ret
        exact ⟨rfl, HX.out.1.mono fun _ _ e => by rw [e]; exact H.out.1.fp, HX.out.2.grow⟩
      · have HE := Lib.hid (show decide (t.left ≠ 0) = true by simp [h0])
        rw [show t.write n k b = (t.put k (pad b), 0) by unfold Tray.write; rw [if_neg (by omega), if_neg h0]]
        have HQ := Lib.hid (show t.put k (pad b) = { t.step with cache := t.step.cache ++ [(k, pad b)] } by unfold Tray.put Tray.step; rw [if_neg h0, if_neg h0]; rfl)
        clear h hk hb hrow hv h0
        go_enter Try.func35, Try.ntmps35
        go_wp2_with fail
        refine HH.out.mono ?_
        rintro e x ⟨rfl, rfl⟩
        rw [HD.out]
        go_wp2_with fail
        refine HS.out.mono ?_
        rintro e x1 ⟨rfl, ht, hx⟩
        rw [HE.out]
        have HX := Lib.hid (And.intro ht hx)
        have hz := zero_wr
        have hw1 : (wrc 0 nul).setIfInBounds 0 (.int .i64 k) = wrc k nul := by simp [wrc]
        have hw2 : (wrc 0 nul).toList.set 0 (.int .i64 k) = (wrc k nul).toList := by simp [wrc]
        have hs0 := wr_size (b := nul) rfl 0
        have hw3 : ¬ wrc 0 nul = #[] := fun e => by rw [e] at hs0; cases hs0
        have hst := store_wr x1 x1.heap.size 0 k nul nul rfl rfl rfl
        have hsk := wr_size (b := nul) rfl k
        have hX1 := hx
        have HCp := Lib.hid (show (x1.alloc (.cells (wrc k nul) tWr)).heap[x1.heap.size]? = some (.cells (wrc k nul).toList.toArray tWr (0, 0)) ∧ Below x1.heap.size x1 (x1.alloc (.cells (wrc k nul) tWr)) ∧
            (0 < (Lib.byteCells b).length → ∃ ad, ao = some ad ∧ ∀ j v, (Lib.byteCells b)[j]? = some v → (x1.alloc (.cells (wrc k nul) tWr)).cell? (ad.add j) = some v) ∧ 1 + (Lib.byteCells b).length ≤ (wrc k nul).toList.length ∧ (Lib.byteCells b).length = Nat.min b.length 128 from by
          have hal : Below x1.heap.size x1 (x1.alloc (.cells (wrc k nul) tWr)) := (Below.refl _ _).alloc (Nat.le_refl _) _
          have e0 : (wrc k nul).toList.toArray = wrc k nul := by simp
          refine ⟨by rw [e0]; exact heap_alloc_new _ _, hal, fun hp => ?_, ?_, ?_⟩
          · obtain ⟨bb, o, rfl, hcell⟩ := HR.out x1 ht (by rw [Lib.byteCells_length] at hp; omega)
            refine ⟨_, rfl, fun j u hu => ?_⟩
            have := hcell j u hu
            rw [addp]
            exact (hal.cell (World.block_lt_of_cell? x1 _ this)).trans this
          · have e1 : (wrc k nul).toList.length = 129 := by rw [Array.length_toList]; exact hsk
            rw [e1, Lib.byteCells_length]
            have := H.out.2.2
            omega
          · rw [Lib.byteCells_length]; have := H.out.2.2; exact (Nat.min_eq_left (by omega)).symm)
        clear ht hx hX1 HR
        go_wp2_with (refine wpList_copy_splice rfl (.tmp 23) (.tmp 24) 22 22 rfl 5 Try.underlying22 (by kernel_rfl) _ _ _ _ _ _ rfl rfl x1.heap.size 1 (wrc k nul).toList tWr HCp.out.1 (Lib.byteCells b) HCp.out.2.2.2.2 (fun hp => ⟨rfl, HCp.out.2.2.1 hp⟩) HCp.out.2.2.2.1 (one_bytes b) x1.heap.size x1 HCp.out.2.1 (Nat.le_refl _) ?_)
        intro w2 HG2 hB2
        clear hw1 hw2 hw3 hs0 hst hsk hz
        have hG := HG2.out
        rw [splice_wr] at hG
        have HW := Lib.hid (And.intro hG (And.intro hB2 (HX.out.2.below hB2)))
        clear HG2 hB2 hG HCp
        obtain ⟨gn, cn, gk, ck, cv, hl⟩ := HW.out.2.2.mem
        obtain ⟨c0, -⟩ := boxC_cells hl.box
        have hk := H.out.2.1
        have hpl := pad_len (b := b) (by have := H.out.2.2; omega)
        obtain ⟨a1, a2, a3⟩ := hl.apart
        have hplt : p < w2.heap.size := HW.out.2.2.low p HW.out.2.2.fp
        have hglt : x1.heap.size < w2.heap.size := (Array.getElem?_eq_some_iff.1 HW.out.1).1
        have hgn : gn < x1.heap.size := HX.out.2.low gn hl.fn
        have HF := Lib.hid (show ∀ x, Below w2.heap.size w2 x → x.cell? ⟨p, 0, none⟩ = some (.slice (some ⟨gn, 0, none⟩) n cn) ∧ (Instr.loadAt tSe (.pointer (some ⟨x1.heap.size, 1, none⟩))).run Try.prog x = .ok (.agg (sec (pad b))) x from fun x hx =>
          ⟨(hx.cell (p := ⟨p, 0, none⟩) hplt).trans c0, load_se x _ 1 (pad b) hpl (wr_bytes ((hx.block x1.heap.size hglt).trans HW.out.1))⟩)
        have hdr : Below w2.heap.size w2 w2.drew := (Below.refl _ _).drew
        have HT := Lib.hid (show IsT w2.drew p n t.step F ∧ Lay w2.drew p n t.step F gn cn gk ck cv from ⟨HW.out.2.2.below hdr, hl.turn (G := fun _ => False) HW.out.2.2.fp (Turns.of_below hdr) fun _ _ h => h⟩)
        have hth : w2.drew.there gn (k.toNat * 128) (sec (pad b)).size := by rw [sec_size hpl]; exact own_there HT.out.2.now (by omega)
        have H3 := Lib.hid (own_set (Lib.byteCells (pad b)) (k.toNat * 128) HT.out.2.now)
        have hix := index_se gn n cn k hk.1 hk.2
        have hs8 := sec_size hpl
        have HTh := Lib.hid (And.intro hth (show (Try.prog.info? tSe).map (·.size) = some (sec (pad b)).size by rw [hs8]; exact info_se))
        have HG := Lib.hid (And.intro hgn (And.intro a1 (And.intro a3 (And.intro hplt hglt))))
        have HC := Lib.hid (And.intro hpl hc)
        clear hl c0 hk hpl a1 a2 a3 hplt hglt hgn hdr hth hc
        go_wp2_with fail
        refine Order.beginE (fun x => Below w2.heap.size w2 x) [8] (by kernel_rfl) ?_
        refine Order.readsE_any (idx := [0, 1, 2, 3, 4, 5, 6, 7]) (by kernel_rfl) (Below.refl _ _).drew (fun _ _ _ _ _ h => Order.noPanic_put h) 1 _ _ (by decide +kernel) ?_
        simp only [Order.pick, List.getElem?_toArray, List.getElem?_cons_zero, List.getElem?_cons_succ]
        repeat (first
          | (refine Order.reads_off (by rfl) ?_
             simp only [Act.put, List.setIfInBounds_toArray, List.set_cons_zero, List.set_cons_succ])
          | (apply Order.reads_on
             · rfl
             · intro x hx
               first
                 | (obtain ⟨q0, q1⟩ := HF.out x hx
                    exact Order.load_at rfl rfl (by assumption))
                 | (go_simp; rfl)
                 | (obtain ⟨q0, q1⟩ := HF.out x hx
                    go_simp; rfl)
             simp only [Act.put, List.setIfInBounds_toArray, List.set_cons_zero, List.set_cons_succ]))
        refine Order.reads_end ?_
        apply Order.lastE (i := 8)
        · rfl
        · decide +kernel
        · decide
        · rfl
        simp only [List.getElem_toArray, List.getElem_cons_succ, List.getElem_cons_zero]
        refine wp_store_mid tSe (.tmp 33) (.tmp 32) rfl gn (k.toNat * 128) (sec (pad b)) rfl rfl HTh.out.1 HTh.out.2 (sec_one _) ?_
        rw [show (sec (pad b)).toList = Lib.byteCells (pad b) by simp [sec]]
        obtain ⟨w3, e3⟩ : ∃ w3, w3 = w2.drew.setCells gn (k.toNat * 128) (Lib.byteCells (pad b)) := ⟨_, rfl⟩
        rw [← e3] at H3 ⊢
        refine Order.doneE (by decide +kernel) ?_ _
        refine NoPanic.normal ?_
        clear HTh HF hix hs8
        have hsz3 := H3.out.2.size
        have hd : w2.drew.heap.size = w2.heap.size := rfl
        have hg3 : w3.heap[x1.heap.size]? = some (.cells (wrc k (pad b)) tWr (0, 0)) := H3.out.2.heap (w := w2.drew) HW.out.1 (by have := HG.out.1; omega)
        have hp3 : w3.heap[p]? = some (.cells (boxC n t.step gn cn gk ck cv) tTy (0, 0)) := H3.out.2.heap HT.out.2.box HG.out.2.1
        have ho3 : w3.ownsRow 0 tWr 129 cv t.step.cache.length (wcells t.step.cache) := own_turn HT.out.2.cache H3.out.2 fun j hj => (HG.out.2.2.1 j hj).2.1
        have hnc : ∀ j, cv.ownBlock = some j → p ≠ j ∧ x1.heap.size ≠ j := fun j hj => ⟨(HG.out.2.2.1 j hj).1, fun e => by
          have h1 := HX.out.2.low j (HT.out.2.fc j hj)
          omega⟩
        have hg3l := (Array.getElem?_eq_some_iff.1 hg3).1
        have hp3l := (Array.getElem?_eq_some_iff.1 hp3).1
        have HF := Lib.hid (show ∀ x, Turns (fun j => cv.ownBlock = some j) w3 x → x.cell? ⟨p, 2, none⟩ = some cv ∧ (Instr.loadAt tWr (.pointer (some ⟨x1.heap.size, 0, none⟩))).run Try.prog x = .ok (.agg (wrc k (pad b))) x from fun x hx =>
          ⟨(boxC_cells (hx.heap hp3 fun e => (hnc p e).1 rfl)).2.2.1, load_wr x _ k (pad b) HC.out.1 (hx.heap hg3 fun e => (hnc _ e).2 rfl)⟩)
        have hbs := fun W => one_wr W k (pad b) HC.out.1
        obtain ⟨ao', cap', rfl⟩ := own_slice ho3
        obtain ⟨i0, z0, b0, T, hb0⟩ := wrElem
        have HO := Lib.hid (And.intro hp3 (And.intro ho3 (And.intro T hb0)))
        have HN := Lib.hid (And.intro hnc (And.intro hg3l hp3l))
        have HE3 := Lib.hid (And.intro e3 hsz3)
        clear hsz3 hd hg3 hp3 ho3 hnc hg3l hp3l T hb0 e3
        go_wp2_with fail
        refine Order.beginE (fun x => Turns (fun j => (Value.slice ao' t.step.cache.length cap').ownBlock = some j) w3 x) [8, 9, 10] (by kernel_rfl) ?_
        refine Order.readsE_any (idx := [0, 1, 2, 3, 4, 5]) (by kernel_rfl) (Turns.of_below (Below.refl _ _).drew) (fun _ _ _ _ _ h => Order.noPanic_put h) 5 _ _ (by decide +kernel) ?_
        simp only [Order.pick, List.getElem?_toArray, List.getElem?_cons_zero, List.getElem?_cons_succ]
        repeat (first
          | (refine Order.reads_off (by rfl) ?_
             simp only [Act.put, List.setIfInBounds_toArray, List.set_cons_zero, List.set_cons_succ])
          | (apply Order.reads_on
             · rfl
             · intro x hx
               first
                 | (obtain ⟨q0, q1⟩ := HF.out x hx
                    exact Order.load_at rfl rfl (by assumption))
                 | (go_simp; rfl)
                 | (obtain ⟨q0, q1⟩ := HF.out x hx
                    go_simp; rfl)
             simp only [Act.put, List.setIfInBounds_toArray, List.set_cons_zero, List.set_cons_succ]))
        refine Order.reads_end ?_
        apply Order.actE (i := 6)
        · rfl
        · decide +kernel
        · rfl
        simp only [List.getElem_toArray, List.getElem_cons_succ, List.getElem_cons_zero]
        refine Order.wp_lit1 rfl rfl (hbs _) ?_
        have hal : Below w3.heap.size w3 (w3.drew.alloc (.cells (wrc k (pad b)) tWr)) := (Below.refl _ _).drew.alloc (Nat.le_refl _) _
        refine ⟨Turns.of_below hal, ?_⟩
        obtain ⟨w4, e4⟩ : ∃ w4, w4 = w3.drew.alloc (.cells (wrc k (pad b)) tWr) := ⟨_, rfl⟩
        have hnew : w4.heap[w3.heap.size]? = some (.cells (wrc k (pad b)) tWr (0, 0)) := by rw [e4]; exact heap_alloc_new w3.drew _
        rw [← e4] at hal ⊢
        have H4 := Lib.hid (And.intro hal (And.intro hnew (own_below HO.out.2.1 hal)))
        clear e4 hal hnew hbs
        change Order.wpAnyE _ _ _ _ _ _ _ _ _ _
        apply Order.actE (i := 7)
        · rfl
        · decide +kernel
        · rfl
        simp only [List.getElem_toArray, List.getElem_cons_succ, List.getElem_cons_zero]
        refine wp_rows HO.out.2.2.1 _ _ rfl rfl rfl H4.out.2.2 (Nat.zero_le _) (m := 1) (news := (wrc k (pad b)).toList) (by rw [Array.length_toList, wr_size HC.out.1]) (fun j u hj => by rw [addp]; exact wr_range H4.out.2.1 j u hj) (one_write (k, pad b)) (by have := HC.out.2; rw [(step_parts t).2]; omega) (Nat.le_trans (Nat.mul_le_mul_left _ HO.out.2.2.2) (by have := HC.out.2; rw [(step_parts t).2]; omega)) ?_
        intro v' w5 o5 g5 n5
        obtain ⟨ao5, cap5, rfl⟩ := own_slice o5
        have t5 : Turns (fun j => (Value.slice ao' t.step.cache.length cap').ownBlock = some j) w3 w5 := (Turns.of_below H4.out.1).trans (Turns.of_grown (F := fun j => (Value.slice ao' t.step.cache.length cap').ownBlock = some j) g5 fun j hj => hj) fun _ _ h => h
        refine ⟨t5, ?_⟩
        have hp5 := t5.heap HO.out.1 fun e => (HN.out.1 p e).1 rfl
        obtain ⟨-, -, c2, -⟩ := boxC_cells hp5
        have f2 := boxC_free hp5 2
        have H5 := Lib.hid (And.intro t5 (And.intro o5 (And.intro g5 n5)))
        clear hp5 o5 g5 n5
        clear t5
        apply Order.lastE (i := 8)
        · rfl
        · decide +kernel
        · decide
        · rfl
        unfold Oper.wp
        go_simp
        apply Order.lastE (i := 9)
        · rfl
        · decide +kernel
        · decide
        · rfl
        unfold Oper.wp
        go_simp
        apply Order.lastE (i := 10)
        · rfl
        · decide +kernel
        · decide
        · rfl
        unfold Oper.wp
        go_simp
        refine Order.doneE (by decide +kernel) ?_ _
        refine NoPanic.normal ?_
        have hfin := put_mem HT.out.1 HT.out.2 H.out.2.1.1 H.out.2.1.2 HC.out.1 HE3.out.1 H4.out.1 H5.out.2.1 H5.out.2.2.1 H5.out.2.2.2 rfl
        clear c2 f2
        have HFin := Lib.hid hfin
        clear hfin
        go_wp2_with fail
        go_ret
        have h1 : Turns F x w2.drew := ((HX.out.1.mono (G := F) fun _ _ e => by rw [e]; exact H.out.1.fp).then_below HW.out.2.1).trans (Turns.of_below (F := F) (Below.refl _ _).drew) fun _ _ h => h
        refine ⟨rfl, h1.trans HFin.out.1 fun _ _ h => h, ?_⟩
        rw [HQ.out]
        exact HFin.out.2.mono (fun j hj => hj.elim .inl fun hj => .inr ⟨Nat.le_trans h1.size hj.1, hj.2⟩) fun j hj => hj.elim (fun hj => Nat.lt_of_lt_of_le (H.out.1.low j hj) (h1.trans HFin.out.1 fun _ _ h => h).size) fun hj => hj.2
  · rw [write_range (.inl hk)]
    have HH := Lib.hid (has_any k h)
    have HD := Lib.hid (show decide (0 ≤ k ∧ k < n) = false by simp only [decide_eq_false_iff_not]; exact hk)
    have H := Lib.hid h
    clear h hk hrow hv
    go_enter Try.func35, Try.ntmps35
    go_wp2_with fail
    refine HH.out.mono ?_
    rintro e x ⟨rfl, rfl⟩
    rw [HD.out]
    go_wp2_with fail
    go_ret
    exact ⟨rfl, Turns.refl _ _, H.out.grow⟩
end
end Ta
end Go.Proofs.Ytkfmmdiflbnhgaa

namespace Go.Proofs.Ytkfmmdiflbnhgaa
set_option maxRecDepth 100000
open Go.RowKit
namespace Ta
open Knot (Turns NewRow)
open Tr (IsElem append_rows wp_rows own_turn own_below own_slice own_open addp)
section
variable {w : World} {p n : Nat} {t : Tray (List UInt8)} {F : Nat → Prop}
/-- A write out of a row of writes. -/
theorem wr_lies {v : Value} {l : List (Int × List UInt8)} (h : w.ownsRow 0 tWr 129 v l.length (wcells l)) (hl : ∀ q ∈ l, q.2.length = 128) {j : Nat} (hj : j < l.length) :
    ∃ g, v.ownBlock = some g ∧ (∀ W, (Instr.indexAt tWs v (.int .i64 (j : Int))).run Try.prog W = .ok (.pointer (some ⟨g, j * 129, none⟩)) W) ∧ w.rangeAt g (j * 129) (wrc l[j].1 l[j].2).toList := by
  rcases h.2 with ⟨-, h0⟩ | ⟨g, cap, cur, rfl, -, hg, hn, hc, hs, ht⟩
  · omega
  · refine ⟨g, rfl, fun W => ?_, fun i u hu => ?_⟩
    · have hz : ∀ w, (sizeOf (Try.prog.elem tWs)).run Try.prog w = .ok 129 w := fun w => by kernel_rfl
      have : l.length ≤ 9223372036854775807 := Nat.le_trans hn (Nat.le_trans hc (by decide))
      rw [run_indexAt_slice W _ _ _ _ _ _ Try.underlying111, if_pos ⟨by omega, by omega⟩, hz]
      have e : ((j : Int)).toNat = j := by omega
      simp only [Result.andThen_ok, e, Addr.add_lit, Nat.zero_add]
    · have hw : (wrc l[j].1 l[j].2).toList = Value.int .i64 l[j].1 :: Lib.byteCells l[j].2 := by simp [wrc]
      rw [hw] at hu
      have hi : i < 129 := by
        have := (List.getElem?_eq_some_iff.1 hu).1
        rw [List.length_cons, Lib.byteCells_length, hl _ (List.getElem_mem hj)] at this
        exact this
      rw [World.ownsRow.cellAt (g := g) ⟨h.1, .inr ⟨g, cap, cur, rfl, Nat.zero_le _, hg, hn, hc, hs, ht⟩⟩ (j * 129 + i) (by omega), wcells_at hl hj hi]
      exact hu
theorem wr_range_bytes {w : World} {g q : Nat} {k : Int} {b : List UInt8} (h : w.rangeAt g q (wrc k b).toList) : w.cell? ⟨g, q, none⟩ = some (.int .i64 k) := by
  have := h 0 (.int .i64 k) (by simp [wrc])
  simpa using this

/-- The tray behind a flush. -/
theorem flush_mem {x y : World} (h : IsT w p n t F) {gn cn gk ck : Nat} {cv : Value} (hl : Lay w p n t F gn cn gk ck cv) (ht : Turns (fun k => k = gk) w x)
    (hk : x.ownsRow 0 tSe 128 (.slice (some ⟨gk, 0, none⟩) n ck) n (flat (disk n (t.kept ++ t.cache)))) (e : y = x.setCell ⟨p, 2, none⟩ (.slice none 0 0)) :
    Turns F w y ∧ IsT y p n { t with kept := t.kept ++ t.cache, cache := [] } F := by
  obtain ⟨a1, a2, a3⟩ := hl.apart
  have t2 : Turns (fun k => k = p) x y := by rw [e]; exact turn_set _ _ _ _
  have t3 : Turns F w y := (ht.mono (G := F) fun _ _ e => by rw [e]; exact hl.fk).trans t2 fun _ _ e => by rw [e]; exact h.fp
  have hbx := ht.heap hl.box a2
  refine ⟨t3, h.num, h.left, fun q hq => (List.mem_append.1 hq).elim (h.lenk q) fun hq => (h.lenc q hq).1, (fun q hq => by cases hq), fun j hj => Nat.lt_of_lt_of_le (h.low j hj) t3.size, h.fp, gn, cn, gk, ck, .slice none 0 0, ?_, ?_, ?_, World.ownsRow_nil _ _ _ _, hl.fn, hl.fk, (fun j hj => nomatch hj), hl.ne⟩
  · rw [e, box_set hbx]
    rfl
  · have hn := own_turn (own_turn hl.now ht fun j hj e => by obtain rfl : gn = j := Option.some.inj hj; exact hl.ne e) t2 fun j hj e => by obtain rfl : gn = j := Option.some.inj hj; exact a1 e.symm
    simpa using hn
  · exact own_turn hk t2 fun j hj e => by obtain rfl : gk = j := Option.some.inj hj; exact a2 e.symm

/-- A tray that was flushed, and the error. -/
def Tray.flushed (t : Tray (List UInt8)) : Tray (List UInt8) × Int := (t.flush, if t.left = 0 then 20 else 0)
set_option maxHeartbeats 4000000 in
set_option maxRecDepth 100000 in
theorem flush_any (h : IsT w p n t F) (hc : t.cache.length ≤ 100000) : Calls Try.prog 81 #[ptr p] w fun e x =>
    e = .returned (.int .i64 (if t.left = 0 then 20 else 0)) ∧ Turns F w x ∧ IsT x p n t.flush F := by
  have HS := Lib.hid (step_any h)
  have H := Lib.hid h
  by_cases h0 : t.left = 0
  · rw [show decide (t.left ≠ 0) = false by simp [h0]] at HS
    rw [if_pos h0, show t.flush = t.dim by unfold Tray.flush; rw [if_pos h0]]
    have HQ := Lib.hid (show t.step = t.dim by unfold Tray.step; rw [if_pos h0])
    clear h h0
    go_enter Try.func81, Try.ntmps81
    go_wp2_with fail
    refine HS.out.mono ?_
    rintro e x ⟨rfl, ht, hx⟩
    rw [HQ.out] at hx
    have HX := Lib.hid (And.intro ht hx)
    clear ht hx
    go_wp2_with fail
    go_ret
    exact ⟨rfl, HX.out.1.mono fun _ _ e => by rw [e]; exact H.out.fp, HX.out.2⟩
  · rw [show decide (t.left ≠ 0) = true by simp [h0]] at HS
    rw [if_neg h0]
    have HQ := Lib.hid (show t.flush = { t.step with kept := t.step.kept ++ t.step.cache, cache := [] } by unfold Tray.flush Tray.step; rw [if_neg h0, if_neg h0]; rfl)
    clear h h0
    go_enter Try.func81, Try.ntmps81
    go_wp2_with fail
    refine HS.out.mono ?_
    rintro e x ⟨rfl, ht, hx⟩
    obtain ⟨gn, cn, gk, ck, cv, hl⟩ := hx.mem
    obtain ⟨-, -, c2, -⟩ := boxC_cells hl.box
    obtain ⟨ao, cap, rfl⟩ := own_slice hl.cache
    have HX := Lib.hid (And.intro ht (And.intro hx hl))
    have hcs : t.step.cache.length ≤ 100000 := by rw [(step_parts t).2]; exact hc
    have HC := Lib.hid hcs
    clear ht hx hl hc
    go_wp2_with fail
    clear c2
    go_loopw [13] (fun i y => ∃ j : Nat, j ≤ t.step.cache.length ∧ i = .int .i64 (j : Int) ∧ Hid (Turns (fun k => k = gk) x y ∧ y.ownsRow 0 tSe 128 (.slice (some ⟨gk, 0, none⟩) n ck) n (flat (disk n (t.step.kept ++ t.step.cache.take j))))) (fun i _ => t.step.cache.length - (intOf i).toNat)
    case atStart =>
      refine ⟨0, by omega, rfl, ⟨Turns.refl _ _, ?_⟩⟩
      rw [List.take_zero, List.append_nil]
      exact HX.out.2.2.kept
    case round =>
      obtain ⟨j, hj, rfl, HY⟩ := hrel
      by_cases hlt : j < t.step.cache.length
      · obtain ⟨ht, hx, hl⟩ := HX.out
        obtain ⟨a1, a2, a3⟩ := hl.apart
        have hlen := hx.lenc _ (List.getElem_mem hlt)
        obtain ⟨g, hg, hix, hr⟩ := wr_lies (own_turn hl.cache HY.out.1 fun i hi => (a3 i hi).2.2) (fun q hq => (hx.lenc q hq).1) hlt
        have hbx := HY.out.1.heap hl.box a2
        generalize hq : t.step.cache[j] = q at *
        obtain ⟨k, b⟩ := q
        simp only at hlen hr
        have h8 := hlen.1
        have HR := Lib.hid (And.intro hr h8)
        have hz := zero_wr
        have hst := store_wr wr wr.heap.size 0 k nul b rfl rfl h8
        have hs0 := wr_size (b := nul) rfl 0
        have hsk := wr_size h8 k
        have hw3 : ¬ wrc 0 nul = #[] := fun e => by rw [e] at hs0; cases hs0
        obtain ⟨X, hX⟩ : ∃ X, X = wr.alloc (.cells (wrc k b) tWr) := ⟨_, rfl⟩
        have hal : Below wr.heap.size wr X := by rw [hX]; exact (Below.refl _ _).alloc (Nat.le_refl _) _
        have hnew : X.heap[wr.heap.size]? = some (.cells (wrc k b) tWr (0, 0)) := by rw [hX]; exact heap_alloc_new wr _
        have hgk : gk < wr.heap.size := by have := hx.low gk hl.fk; have := HY.out.1.size; omega
        have hplt := (Array.getElem?_eq_some_iff.1 hbx).1
        have hnlt := (Array.getElem?_eq_some_iff.1 hnew).1
        obtain ⟨-, c1, -⟩ := boxC_cells hbx
        have HF := Lib.hid (show ∀ x, Below X.heap.size X x → x.cell? ⟨p, 1, none⟩ = some (.slice (some ⟨gk, 0, none⟩) n ck) ∧ x.cell? ⟨wr.heap.size, 0, none⟩ = some (.int .i64 k) ∧ (Instr.loadAt tSe (.pointer (some ⟨wr.heap.size, 1, none⟩))).run Try.prog x = .ok (.agg (sec b)) x from fun x hx => by
          have hn2 := (hx.block wr.heap.size hnlt).trans hnew
          exact ⟨(hx.cell (p := ⟨p, 1, none⟩) (by have := hal.size; show p < _; omega)).trans ((hal.cell (p := ⟨p, 1, none⟩) hplt).trans c1), wr_range_bytes (wr_range hn2), load_se x _ 1 b h8 (wr_bytes hn2)⟩)
        have hdr : Below wr.heap.size wr X.drew := hal.drew
        have hrow : X.drew.ownsRow 0 tSe 128 (.slice (some ⟨gk, 0, none⟩) n ck) n (flat (disk n (t.step.kept ++ t.step.cache.take j))) := own_below HY.out.2 hdr
        have hth : X.drew.there gk (k.toNat * 128) (sec b).size := by rw [sec_size h8]; exact own_there hrow (by omega)
        have hset := own_set (Lib.byteCells b) (k.toNat * 128) hrow
        rw [flat_set (disk_all fun q hq => (List.mem_append.1 hq).elim (hx.lenk q) fun hq => (hx.lenc q (List.mem_of_mem_take hq)).1) (by rw [disk_len]; omega) h8, disk_set, show ((k.toNat : Nat) : Int) = k by omega, List.append_assoc, ← hq, ← List.take_succ_eq_append_getElem hlt] at hset
        have HSet := Lib.hid (And.intro hset hdr)
        have hxi := index_se gk n ck k hlen.2.1 hlen.2.2
        have hs8 := sec_size h8
        have HTh := Lib.hid (And.intro hth (show (Try.prog.info? tSe).map (·.size) = some (sec b).size by rw [hs8]; exact info_se))
        have HG := Lib.hid hgk
        clear ht hx hl a1 a2 a3 hlen hr h8 hbx hal hnew hgk hplt hnlt c1 hdr hrow hth hset hq hg
        go_wp2_with (refine wpList_load_mid rfl tWr (.tmp 15) rfl g (j * 129) rfl (wrc k b).toList _ HR.out.1 Try.underlying117 rfl (by rw [Array.length_toList, wr_size HR.out.2]; exact info_wr) ?_; rw [Array.toArray_toList])
        rw [← hX]
        refine Order.beginE (fun x => Below X.heap.size X x) [9] (by kernel_rfl) ?_
        refine Order.readsE_any (idx := [0, 1, 2, 3, 4, 5, 6, 7, 8]) (by kernel_rfl) (Below.refl _ _).drew (fun _ _ _ _ _ h => Order.noPanic_put h) 1 _ _ (by decide +kernel) ?_
        simp only [Order.pick, List.getElem?_toArray, List.getElem?_cons_zero, List.getElem?_cons_succ]
        repeat (first
          | (refine Order.reads_off (by rfl) ?_
             simp only [Act.put, List.setIfInBounds_toArray, List.set_cons_zero, List.set_cons_succ])
          | (apply Order.reads_on
             · rfl
             · intro x hx
               first
                 | (obtain ⟨q0, q1, q2⟩ := HF.out x hx
                    exact Order.load_at rfl rfl (by assumption))
                 | (go_simp; rfl)
                 | (obtain ⟨q0, q1, q2⟩ := HF.out x hx
                    go_simp; rfl)
             simp only [Act.put, List.setIfInBounds_toArray, List.set_cons_zero, List.set_cons_succ]))
        refine Order.reads_end ?_
        apply Order.lastE (i := 9)
        · rfl
        · decide +kernel
        · decide
        · rfl
        simp only [List.getElem_toArray, List.getElem_cons_succ, List.getElem_cons_zero]
        refine wp_store_mid tSe (.tmp 25) (.tmp 24) rfl gk (k.toNat * 128) (sec b) rfl rfl HTh.out.1 HTh.out.2 (sec_one _) ?_
        rw [show (sec b).toList = Lib.byteCells b by simp [sec]]
        refine Order.doneE (by decide +kernel) ?_ _
        refine NoPanic.normal ?_
        obtain ⟨Y, hY⟩ : ∃ Y, Y = X.drew.setCells gk (k.toNat * 128) (Lib.byteCells b) := ⟨_, rfl⟩
        rw [← hY] at HSet ⊢
        have HYY := Lib.hid (show Turns (fun k => k = gk) x Y ∧ Y.ownsRow 0 tSe 128 (.slice (some ⟨gk, 0, none⟩) n ck) n (flat (disk n (t.step.kept ++ t.step.cache.take (j + 1)))) from
          ⟨(HY.out.1.then_below HSet.out.2).trans HSet.out.1.2 fun _ _ e => e, HSet.out.1.1⟩)
        clear hX hY HSet HF HTh hz hst hs0 hsk hw3 hix hxi hs8
        go_wp2_with fail
        go_roundw
        case rel => exact ⟨j + 1, by omega, by go_num, HYY⟩
        case measure => simp [intOf]; omega
      · have hj' : j = t.step.cache.length := by omega
        subst hj'
        rw [List.take_length] at HY
        have hbx := HY.out.1.heap HX.out.2.2.box HX.out.2.2.apart.2.1
        obtain ⟨-, -, c2, -⟩ := boxC_cells hbx
        have f2 := boxC_free hbx 2
        have HFin := Lib.hid (flush_mem HX.out.2.1 HX.out.2.2 HY.out.1 HY.out.2 rfl)
        clear hbx
        go_wp2_with fail
        go_ret
        rw [HQ.out]
        exact ⟨rfl, (HX.out.1.mono (G := F) fun _ _ e => by rw [e]; exact H.out.fp).trans HFin.out.1 fun _ _ h => h, HFin.out.2⟩
end
end Ta
end Go.Proofs.Ytkfmmdiflbnhgaa

namespace Go.Proofs.Ytkfmmdiflbnhgaa
set_option maxRecDepth 100000
open Go.RowKit
namespace Ta
open Knot (Turns NewRow)
open Tr (IsElem append_rows wp_rows own_turn own_below own_slice own_open addp)
section
variable {w : World} {p n : Nat} {t : Tray (List UInt8)} {F : Nat → Prop}
theorem flag_at {v : Value} {c : List Bool} (h : IsFlags w v c) {j : Nat} (hj : j < c.length) : ∃ g q, (∀ W, (Instr.indexAt 50 v (.int .i64 (j : Int))).run Try.prog W = .ok (.pointer (some ⟨g, q, none⟩)) W) ∧ w.cell? ⟨g, q, none⟩ = some (.bool c[j]) := by
  obtain ⟨ao, cap, rfl, h1, h2, h3⟩ := h
  obtain ⟨g, o, rfl, hc⟩ := h3 (by omega)
  refine ⟨g, o + j, fun W => ?_, hc j _ (by simp [hj])⟩
  have hz : ∀ w, (sizeOf (Try.prog.elem 50)).run Try.prog w = .ok 1 w := fun w => by kernel_rfl
  have : c.length ≤ 9223372036854775807 := Nat.le_trans h1 (Nat.le_trans h2 (by decide))
  rw [run_indexAt_slice W _ _ _ _ _ _ Try.underlying50, if_pos ⟨by omega, by omega⟩, hz]
  have e : ((j : Int)).toNat = j := by omega
  simp only [Result.andThen_ok, e, Addr.add_lit, Nat.mul_one]
theorem getD_at {c : List Bool} {j : Nat} (h : j < c.length) : c.getD j false = c[j] := by rw [List.getD_eq_getElem?_getD, List.getElem?_eq_getElem h]; rfl
theorem getD_past {c : List Bool} {j : Nat} (h : ¬ j < c.length) : c.getD j false = false := by rw [List.getD_eq_getElem?_getD, List.getElem?_eq_none (by omega)]; rfl

set_option maxHeartbeats 4000000 in
set_option maxRecDepth 100000 in
theorem lose_any (h : IsT w p n t F) (v : Value) (c : List Bool) (hv : IsFlags w v c) (hcl : t.cache.length ≤ 100000) : Calls Try.prog 28 #[ptr p, v] w fun e x =>
    ∃ q, e = .returned (ptr q) ∧ w.heap.size ≤ q ∧ Below w.heap.size w x ∧ IsT x q n (t.lose c) (Made w x) := by
  obtain ⟨gn, cn, gk, ck, cv, hl⟩ := h.mem
  obtain ⟨-, c1, c2, -⟩ := boxC_cells hl.box
  obtain ⟨vo, vcap, rfl, hv1, hv2, hv3⟩ := hv
  have HV := Lib.hid (show IsFlags w (.slice vo c.length vcap) c from ⟨vo, vcap, rfl, hv1, hv2, hv3⟩)
  have HCl := Lib.hid (clone_any gk ck _ hl.kept (one_flat _) h.num)
  obtain ⟨ao, cap, rfl⟩ := own_slice hl.cache
  have H := Lib.hid (And.intro h hl)
  have hvl : c.length ≤ 9223372036854775807 := Nat.le_trans hv1 (Nat.le_trans hv2 (by decide))
  clear h hl hv1 hv2 hv3
  go_enter Try.func28, Try.ntmps28
  go_wp2_with fail
  refine HCl.out.mono ?_
  rintro e x ⟨g', c', rfl, o1, b1⟩
  have hc2 := (b1.cell (p := ⟨p, 2, none⟩) (H.out.1.low p H.out.1.fp)).trans c2
  have HO := Lib.hid (And.intro o1 b1)
  clear c1 c2 o1 b1
  go_wp2_with fail
  clear hc2
  go_loopw [18] (fun i y => ∃ j : Nat, j ≤ t.cache.length ∧ i = .int .i64 (j : Int) ∧ Hid (Below w.heap.size w y ∧ y.ownsRow 0 tSe 128 (.slice (some ⟨g', 0, none⟩) n c') n (flat (disk n (t.kept ++ pick (t.cache.take j) c))))) (fun i _ => t.cache.length - (intOf i).toNat)
  case atStart =>
    refine ⟨0, by omega, rfl, ⟨HO.out.2, ?_⟩⟩
    have e : pick (t.cache.take 0) c = [] := by rw [List.take_zero]; cases c <;> rfl
    rw [e, List.append_nil]
    exact own_low HO.out.1
  case round =>
    obtain ⟨j, hj, rfl, HY⟩ := hrel
    by_cases hlt : j < t.cache.length
    · obtain ⟨h, hl⟩ := H.out
      have hlen := h.lenc _ (List.getElem_mem hlt)
      obtain ⟨g, hg, hix, hr⟩ := wr_lies (own_below hl.cache HY.out.1) (fun q hq => (h.lenc q hq).1) hlt
      have hpk := pick_take hlt c
      have hpl : ∀ q ∈ t.kept ++ pick (t.cache.take j) c, q.2.length = 128 := fun q hq => (List.mem_append.1 hq).elim (h.lenk q) fun hq => (h.lenc q (List.mem_of_mem_take (pick_mem hq))).1
      generalize hq : t.cache[j] = q at *
      obtain ⟨k, b⟩ := q
      simp only at hlen hr
      have h8 := hlen.1
      have HR := Lib.hid (And.intro hr h8)
      have hz := zero_wr
      have hst := store_wr wr wr.heap.size 0 k nul b rfl rfl h8
      have hs0 := wr_size (b := nul) rfl 0
      have hsk := wr_size h8 k
      have hw3 : ¬ wrc 0 nul = #[] := fun e => by rw [e] at hs0; cases hs0
      obtain ⟨X, hX⟩ : ∃ X, X = wr.alloc (.cells (wrc k b) tWr) := ⟨_, rfl⟩
      have hal : Below wr.heap.size wr X := by rw [hX]; exact (Below.refl _ _).alloc (Nat.le_refl _) _
      have hnew : X.heap[wr.heap.size]? = some (.cells (wrc k b) tWr (0, 0)) := by rw [hX]; exact heap_alloc_new wr _
      have hB : Below w.heap.size w X := HY.out.1.trans (hal.mono HY.out.1.size)
      have hrow : X.ownsRow 0 tSe 128 (.slice (some ⟨g', 0, none⟩) n c') n (flat (disk n (t.kept ++ pick (t.cache.take j) c))) := own_below HY.out.2 hal
      have HH := Lib.hid (And.intro hB (And.intro hrow (And.intro hpk (And.intro hpl hlen))))
      have HN := Lib.hid hnew
      by_cases hjc : j < c.length
      · have hjI : (j : Int) < (c.length : Int) := by omega
        obtain ⟨fg, fq, hfi, hfc⟩ := flag_at HV.out hjc
        have hfx := (hB.cell (p := ⟨fg, fq, none⟩) (World.block_lt_of_cell? w _ hfc)).trans hfc
        have hgd := getD_at hjc
        have HI := Lib.hid (And.intro hq hjc)
        clear h hl hlen hr h8 hal hnew hB hrow hpk hpl hq hg hfc
        cases hcj : c[j] with
        | false =>
          rw [hcj] at hfx hgd
          have HGD := Lib.hid hgd
          clear hcj hgd hjc
          subst hX
          go_wp2_with (refine wpList_load_mid rfl tWr (.tmp 21) rfl g (j * 129) rfl (wrc k b).toList _ HR.out.1 Try.underlying117 rfl (by rw [Array.length_toList, wr_size HR.out.2]; exact info_wr) ?_; rw [Array.toArray_toList])
          go_roundw
          case rel =>
            refine ⟨j + 1, by omega, by go_num, ⟨HH.out.1, ?_⟩⟩
            rw [HH.out.2.2.1, HGD.out, if_neg (by decide), List.append_nil]
            exact HH.out.2.1
          case measure => simp [intOf]; omega
        | true =>
          rw [hcj] at hfx hgd
          have HGD := Lib.hid hgd
          clear hcj hgd hjc
          obtain ⟨n0, n1⟩ : X.cell? ⟨wr.heap.size, 0, none⟩ = some (.int .i64 k) ∧ (Instr.loadAt tSe (.pointer (some ⟨wr.heap.size, 1, none⟩))).run Try.prog X = .ok (.agg (sec b)) X := ⟨wr_range_bytes (wr_range HN.out), load_se X _ 1 b HR.out.2 (wr_bytes HN.out)⟩
          have HN1 := Lib.hid (wr_bytes HN.out)
          clear n1
          have hxi := index_se g' n c' k HH.out.2.2.2.2.2.1 HH.out.2.2.2.2.2.2
          have hs8 := sec_size HR.out.2
          have HTh := Lib.hid (And.intro (show X.there g' (k.toNat * 128) (sec b).size by rw [hs8]; exact own_there HH.out.2.1 (by have := HH.out.2.2.2.2; omega)) (show (Try.prog.info? tSe).map (·.size) = some (sec b).size by rw [hs8]; exact info_se))
          subst hX
          go_wp2_with (first | (refine wpList_load_mid rfl tWr (.tmp 21) rfl g (j * 129) rfl (wrc k b).toList _ HR.out.1 Try.underlying117 rfl (by rw [Array.length_toList, wr_size HR.out.2]; exact info_wr) ?_; rw [Array.toArray_toList]) | (refine wpList_load_mid rfl tSe (.tmp 36) rfl wr.heap.size 1 rfl (Lib.byteCells b) _ HN1.out Try.underlying115 rfl (by rw [Lib.byteCells_length, HR.out.2]; exact info_se) ?_; rw [show (Lib.byteCells b).toArray = sec b from rfl]) | (refine wpList_store_mid rfl tSe (.tmp 38) (.tmp 37) rfl g' (k.toNat * 128) (sec b) rfl rfl HTh.out.1 HTh.out.2 (sec_one _) ?_; rw [show (sec b).toList = Lib.byteCells b by simp [sec]]))
          have hset := own_set (Lib.byteCells b) (k.toNat * 128) HH.out.2.1
          rw [flat_set (disk_all HH.out.2.2.2.1) (by rw [disk_len]; have := HH.out.2.2.2.2; omega) HR.out.2, disk_set, show ((k.toNat : Nat) : Int) = k by have := HH.out.2.2.2.2; omega, List.append_assoc] at hset
          obtain ⟨Y, hY⟩ : ∃ Y, Y = (wr.alloc (.cells (wrc k b) tWr)).setCells g' (k.toNat * 128) (Lib.byteCells b) := ⟨_, rfl⟩
          rw [← hY] at hset ⊢
          have hg' : w.heap.size ≤ g' := (HO.out.1.lt g' rfl).1
          have HS := Lib.hid (And.intro hset (HH.out.1.trans (hset.2.below (B := w.heap.size) HH.out.1.size fun i e => by rw [e]; exact hg')))
          clear hset hY n0 hxi hs8
          go_wp2_with fail
          go_roundw
          case rel =>
            refine ⟨j + 1, by omega, by go_num, ⟨HS.out.2, ?_⟩⟩
            rw [HH.out.2.2.1, HGD.out, if_pos rfl]
            exact HS.out.1.1
          case measure => simp [intOf]; omega
      · have hjI : ¬ (j : Int) < (c.length : Int) := by omega
        have HGD := Lib.hid (getD_past hjc)
        clear h hl hlen hr h8 hal hnew hB hrow hpk hpl hq hg hjc
        subst hX
        go_wp2_with (refine wpList_load_mid rfl tWr (.tmp 21) rfl g (j * 129) rfl (wrc k b).toList _ HR.out.1 Try.underlying117 rfl (by rw [Array.length_toList, wr_size HR.out.2]; exact info_wr) ?_; rw [Array.toArray_toList])
        go_roundw
        case rel =>
          refine ⟨j + 1, by omega, by go_num, ⟨HH.out.1, ?_⟩⟩
          rw [HH.out.2.2.1, HGD.out, if_neg (by decide), List.append_nil]
          exact HH.out.2.1
        case measure => simp [intOf]; omega
    · have hj' : j = t.cache.length := by omega
      subst hj'
      rw [List.take_length] at HY
      have HK := Lib.hid (keeping_any g' c' (t.kept ++ pick t.cache c) HY.out.2 (fun q hq => (List.mem_append.1 hq).elim (H.out.1.lenk q) fun hq => (H.out.1.lenc q (pick_mem hq)).1) H.out.1.num)
      go_wp2_with fail
      refine HK.out.mono ?_
      rintro e z ⟨q, rfl, hq, hb, hz⟩
      have HZ := Lib.hid (And.intro hq (And.intro hb hz))
      clear hq hb hz
      go_wp2_with fail
      go_ret
      obtain ⟨hq, hb, hz⟩ := HZ.out
      have h1 := HY.out.1.size
      have h2 := hb.size
      refine ⟨q, rfl, by omega, HY.out.1.trans (hb.mono h1), hz.mono (fun i hi => ?_) fun i hi => hi.2⟩
      rcases hi with rfl | hi
      · exact ⟨(HO.out.1.lt i rfl).1, by have := (HY.out.2.lt i rfl).2; omega⟩
      · exact ⟨by have := hi.1; omega, hi.2⟩
end
end Ta
end Go.Proofs.Ytkfmmdiflbnhgaa

namespace Go.Proofs.Ytkfmmdiflbnhgaa
set_option maxRecDepth 100000
open Go.RowKit
namespace Ta
open Knot (Turns NewRow)
open Tr (IsElem append_rows wp_rows own_turn own_below own_slice own_open addp)
section
variable {w x y : World} {p n : Nat} {t : Tray (List UInt8)} {F : Nat → Prop}
/-- A tray in blocks that were made since w. -/
structure At (w x : World) (p n : Nat) (t : Tray (List UInt8)) : Prop where
  is : IsT x p n t (Made w x)
  below : Below w.heap.size w x
theorem At.made (h : Below w.heap.size w x) (hi : IsT y p n t (Made x y)) (hb : Below x.heap.size x y) : At w y p n t :=
  ⟨hi.mono (fun _ hk => ⟨Nat.le_trans h.size hk.1, hk.2⟩) fun _ hk => hk.2, h.trans (hb.mono h.size)⟩
theorem At.step {u : World} {t' : Tray (List UInt8)} (h : At w x p n t) (hb : Below x.heap.size x u) (ht : Turns (Made w x) u y) (hi : IsT y p n t' (Grow (Made w x) u y)) : At w y p n t' :=
  ⟨hi.mono (fun _ hk => hk.elim (fun hk => ⟨hk.1, Nat.lt_of_lt_of_le hk.2 (Nat.le_trans hb.size ht.size)⟩) fun hk => ⟨Nat.le_trans h.below.size (Nat.le_trans hb.size hk.1), hk.2⟩) fun _ hk => hk.2,
    (h.below.trans (hb.mono h.below.size)).trans (ht.below (Nat.le_trans h.below.size hb.size) fun _ hk => hk.1)⟩
theorem At.on (h : At w x p n t) (hb : Below x.heap.size x y) : At w y p n t :=
  ⟨(h.is.below hb).mono (fun _ hk => ⟨hk.1, Nat.lt_of_lt_of_le hk.2 hb.size⟩) fun _ hk => hk.2, h.below.trans (hb.mono h.below.size)⟩
/-- A byte in a list of its own. -/
theorem fresh_byte (low : ∀ k, F k → k < w.heap.size) (u : UInt8) : Stay F (w.alloc (.cells #[.int .u8 (u.toNat : Nat)] 5 (1, 2))) fun x => IsBytes x (.slice (some ⟨w.heap.size, 0, none⟩) 1 1) [u] := fun x hx => by
  have hh := hx.heap (heap_alloc_new w _) fun h => by have := low _ h; omega
  refine ⟨_, 1, rfl, Nat.le_refl _, by decide, fun _ => ⟨w.heap.size, 0, rfl, fun j v hj => ?_⟩⟩
  rw [Go.Joins.cell_of_block hh, Nat.zero_add]
  simpa [Lib.byteCells] using hj
/-- A list of one byte is written. -/
theorem put_one (k : Int) (u : UInt8) (z : Int) (hz : ((u.toNat : Nat) : Int) = z) (h : At w x p n t) (hc : t.cache.length ≤ 100000) :
    Calls Try.prog 35 #[ptr p, .int .i64 k, .slice (some ⟨x.heap.size, 0, none⟩) 1 1] (x.alloc (.cells #[.int .u8 z] 5 (1, 2))) fun e y => e = .returned (.int .i64 (t.write n k [u]).2) ∧ At w y p n (t.write n k [u]).1 := by
  subst hz
  have hal : Below x.heap.size x (x.alloc (.cells #[.int .u8 ((u.toNat : Nat) : Int)] 5 (1, 2))) := (Below.refl _ _).alloc (Nat.le_refl _) _
  refine (write_any k _ [u] (h.is.below hal) (fresh_byte (fun k hk => hk.2) u) hc).mono ?_
  rintro e y ⟨rfl, ht, hi⟩
  exact ⟨rfl, h.step hal ht hi⟩
theorem conv_byte (z : Int) (W : World) : (convert 22 22 (.slice (some ⟨W.heap.size, 0, none⟩) 1 1)).run Try.prog (W.alloc (.cells #[.int .u8 z] 5)) = .ok (.slice (some ⟨W.heap.size, 0, none⟩) 1 1) (W.alloc (.cells #[.int .u8 z] 5 (1, 2))) :=
  Go.Joins.run_convert_bytes_const_at (P := Try.prog) W 22 5 #[.int .u8 z] 1 1 W.heap.size rfl Try.underlying22 Try.underlying5
theorem flush_at (h : At w x p n t) (hc : t.cache.length ≤ 100000) : Calls Try.prog 81 #[ptr p] x fun e y => e = .returned (.int .i64 (if t.left = 0 then 20 else 0)) ∧ At w y p n t.flush := by
  refine (flush_any h.is hc).mono ?_
  rintro e y ⟨rfl, ht, hi⟩
  exact ⟨rfl, h.step (Below.refl _ _) ht hi.grow⟩
theorem lose_at (h : At w x p n t) {v : Value} {c : List Bool} (hv : IsFlags x v c) (hc : t.cache.length ≤ 100000) : Calls Try.prog 28 #[ptr p, v] x fun e y => ∃ q, e = .returned (ptr q) ∧ At w y q n (t.lose c) ∧ Below x.heap.size x y := by
  refine (lose_any h.is v c hv hc).mono ?_
  rintro e y ⟨q, rfl, -, hb, hi⟩
  exact ⟨q, rfl, At.made h.below hi hb, hb⟩
/-- Two choices in a list of their own. -/
theorem two_flags (a b : Bool) : IsFlags (w.alloc (.cells #[.bool a, .bool b] 4)) (.slice (some ⟨w.heap.size, 0, none⟩) 2 2) [a, b] := by
  refine ⟨_, 2, rfl, Nat.le_refl _, by decide, fun _ => ⟨w.heap.size, 0, rfl, fun j v hj => ?_⟩⟩
  rw [Lib.cell_of_heap (heap_alloc_new w _), Nat.zero_add]
  simpa using hj
/-- The first byte of a sector that was read. -/
theorem first_cell {g : Nat} {b : List UInt8} {u : UInt8} (h : x.heap[g]? = some (.cells (sec b) tSe (0, 0))) (hb : b[0]? = some u) : x.cell? ⟨g, 0, none⟩ = some (.int .u8 (u.toNat : Nat)) := by
  rw [Lib.cell_of_heap h]
  simp only [sec, List.getElem?_toArray, Lib.byteCells, List.getElem?_map, hb, Option.map_some]
end

def exT : Tray (List UInt8) := ((((((Tray.write 8 Tray.fresh 1 [97]).1.flush).write 8 1 [98]).1).write 8 2 [99]).1).lose [false, true]
theorem ex_one : (exT.read nul 1)[0]? = some 97 := by decide +kernel
theorem ex_two : (exT.read nul 2)[0]? = some 99 := by decide +kernel

end Ta
end Go.Proofs.Ytkfmmdiflbnhgaa
