/-
  Layer 12's statements: lists of acts and of choices as arguments: where their cells lie, and that no list is longer than the argument's bulk.
-/
import Derived.Test.YtdodmjcbjknneaaFrame
import Derived.Test.YtdodmjcbjknneaaTaPure
import Derived.LaidSub
import Derived.Deep.Slices
import Derived.Deep.Grids
import Derived.Lib.UnsafeStr
namespace Go.Proofs.Ytdodmjcbjknneaa
set_option maxRecDepth 100000
open Go.ChangeShapes Go.WideShapes Go.ChangeAt Go.RowKit Go.Joins Go.Deep
namespace Ta

/-- A slice over so many cells: where it is not empty it lies plainly, and its cells are these. -/
def Row (w : World) (v : Value) (n : Nat) (us : List Value) : Prop :=
  ∃ ao cap, v = .slice ao n cap ∧ n ≤ cap ∧ cap ≤ maxLen ∧ (n ≠ 0 → ∃ b o, ao = some ⟨b, o, none⟩ ∧ ∀ j u, us[j]? = some u → w.cell? ⟨b, o + j, none⟩ = some u)
/-- A list of bytes that came in. -/
def IsBytes (w : World) (v : Value) (l : List UInt8) : Prop := Row w v l.length (Lib.byteCells l)
/-- A list of choices that came in. -/
def IsFlags (w : World) (v : Value) (l : List Bool) : Prop := Row w v l.length (l.map .bool)
/-- What an act holds. -/
structure Act where
  kind : Int
  at_ : Int
  b : List UInt8
  c : List Bool
instance : Inhabited Act := ⟨⟨0, 0, [], []⟩⟩
/-- The four cells of an act: its list of bytes, its list of choices. -/
def IsAct (w : World) (cs : List Value) (a : Act) : Prop :=
  ∃ vb vc, cs = [.int .i64 a.kind, .int .i64 a.at_, vb, vc] ∧ IsBytes w vb a.b ∧ IsFlags w vc a.c ∧ (Lit.int .i64 a.kind).wf = true ∧ (Lit.int .i64 a.at_).wf = true
/-- A list of acts that came in. -/
def IsActs (w : World) (v : Value) (l : List Act) : Prop :=
  ∃ ao cap, v = .slice ao l.length cap ∧ l.length ≤ cap ∧ cap ≤ maxLen ∧ (l ≠ [] → ∃ b o, ao = some ⟨b, o, none⟩ ∧ ∀ (i : Nat) (h : i < l.length), ∃ cs, IsAct w cs l[i] ∧ ∀ j u, cs[j]? = some u → w.cell? ⟨b, o + i * 4 + j, none⟩ = some u)

section
variable {w x : World} {v : Value}
theorem Row.below {n : Nat} {us : List Value} (h : Row w v n us) (hb : Below w.heap.size w x) : Row x v n us := by
  obtain ⟨ao, cap, hv, h1, h2, h3⟩ := h
  refine ⟨ao, cap, hv, h1, h2, fun hn => ?_⟩
  obtain ⟨b, o, e, hc⟩ := h3 hn
  refine ⟨b, o, e, fun j u hj => ?_⟩
  have h1 := hc j u hj
  exact (hb.cell (World.block_lt_of_cell? w _ h1)).trans h1
theorem IsAct.below {cs : List Value} {a : Act} (h : IsAct w cs a) (hb : Below w.heap.size w x) : IsAct x cs a := by
  obtain ⟨vb, vc, e, h1, h2, h3⟩ := h
  exact ⟨vb, vc, e, Row.below h1 hb, Row.below h2 hb, h3⟩
theorem IsActs.below {l : List Act} (h : IsActs w v l) (hb : Below w.heap.size w x) : IsActs x v l := by
  obtain ⟨ao, cap, hv, h1, h2, h3⟩ := h
  refine ⟨ao, cap, hv, h1, h2, fun hn => ?_⟩
  obtain ⟨b, o, e, hc⟩ := h3 hn
  refine ⟨b, o, e, fun i hi => ?_⟩
  obtain ⟨cs, ha, hx⟩ := hc i hi
  refine ⟨cs, ha.below hb, fun j u hj => ?_⟩
  have h1 := hx j u hj
  exact (hb.cell (World.block_lt_of_cell? w _ h1)).trans h1
end

theorem cellsByte : Try.prog.cellsOf 5 = 1 := by kernel_rfl
theorem cellsBool : Try.prog.cellsOf 4 = 1 := by kernel_rfl
theorem cellsInt : Try.prog.cellsOf 3 = 1 := by kernel_rfl
theorem cellsBs : Try.prog.cellsOf 22 = 1 := by kernel_rfl
theorem cellsFs : Try.prog.cellsOf 50 = 1 := by kernel_rfl
section
variable {H : Type} {enc : TypeId × Value → H} {W : World} {base : Nat} {held : Bool}
theorem bulk_pos (d : DataW H) : 1 ≤ Rows.uptoBulk d := by
  cases d with
  | lit x => cases x <;> simp [Rows.uptoBulk]
  | _ => simp [Rows.uptoBulk]
theorem bulk_mem : ∀ {ds : List (DataW H)} {d : DataW H}, d ∈ ds → Rows.uptoBulk d ≤ Rows.uptoBulkAll ds
  | e :: ds, d, h => by
    rw [Rows.uptoBulkAll]
    rcases List.mem_cons.1 h with rfl | h
    · omega
    · have := bulk_mem h; omega
theorem bulk_len : ∀ (ds : List (DataW H)), ds.length ≤ Rows.uptoBulkAll ds
  | [] => Nat.zero_le _
  | e :: ds => by
    rw [Rows.uptoBulkAll, List.length_cons]
    have := bulk_len ds
    have := bulk_pos e
    omega
theorem add_at (b o i : Nat) : (⟨b, o, none⟩ : Addr).add i = ⟨b, o + i, none⟩ := by unfold Addr.add; split <;> simp_all
/-- A slice that holds a cell lies plainly. -/
theorem plain {a : Addr} {u : Value} (h : W.cell? (a.add 0) = some u) : ∃ b o, a = ⟨b, o, none⟩ := by
  obtain ⟨b, o, s⟩ := a
  obtain rfl : s = none := by simpa [Addr.add] using World.cell?_spot h
  exact ⟨b, o, rfl⟩

set_option maxRecDepth 100000 in
theorem bytes_cells {fuel : Nat} {cs : List Value} {y : DataW H × List MemPlace} (h : DataW.trod enc Try.prog W base (fun _ => true) held fuel 22 cs = some y) : ∃ v l, cs = [v] ∧ IsBytes W v l ∧ l.length ≤ Rows.uptoBulk y.1 := by
  rcases open_ints Try.underlying22 Try.underlying5 cellsByte h with ⟨rfl, -⟩ | ⟨a, len, cap, zs, rfl, _, hl, hm, hz, hy, hcell, hwz⟩
  · exact ⟨_, [], rfl, ⟨none, 0, rfl, Nat.le_refl _, Nat.zero_le _, fun h => absurd rfl h⟩, Nat.zero_le _⟩
  · simp only [if_true] at hz
    have hlen : ((zs.take len).map fun n => UInt8.ofNat n.toNat).length = len := by simp; omega
    have hb : len ≤ Rows.uptoBulk y.1 := by
      rw [hy]
      simp only [Rows.uptoBulk]
      have := bulk_len (H := H) (lits .u8 (zs.take len))
      have e : (lits (H := H) .u8 (zs.take len)).length = len := by simp [lits]; omega
      omega
    refine ⟨_, (zs.take len).map fun n => UInt8.ofNat n.toNat, rfl, ⟨some a, cap, by rw [hlen], by omega, hm, fun hn => ?_⟩, by omega⟩
    rw [hlen] at hn
    obtain ⟨b, o, rfl⟩ := plain (hcell 0 (by omega))
    refine ⟨b, o, rfl, fun j u hj => ?_⟩
    have hjl : j < len := by
      have := (List.getElem?_eq_some_iff.1 hj).1
      rwa [Lib.byteCells_length, hlen] at this
    have hr := range_u8 hwz j
    have hzj : zs[j]? = some (zs[j]'(by omega)) := List.getElem?_eq_getElem (by omega)
    rw [hzj, Option.getD_some] at hr
    rw [← add_at, hcell j (by omega), ← hj]
    simp only [Lib.byteCells, List.getElem?_map, List.getElem?_take, hjl, if_true, hzj, Option.map_some, List.getD, Option.getD_some]
    have e : ((UInt8.ofNat (zs[j]'(by omega)).toNat).toNat : Int) = zs[j]'(by omega) := by rw [UInt8.toNat_ofNat']; omega
    rw [e]
set_option maxRecDepth 100000 in
theorem flags_cells {fuel : Nat} {cs : List Value} {y : DataW H × List MemPlace} (h : DataW.trod enc Try.prog W base (fun _ => true) held fuel 50 cs = some y) : ∃ v l, cs = [v] ∧ IsFlags W v l ∧ l.length ≤ Rows.uptoBulk y.1 := by
  rcases open_slice1 Try.underlying50 cellsBool h with ⟨rfl, -⟩ | ⟨a, len, cap, m, n, V, D, Pl, rfl, -, hl, hm, hmm, rfl, hx⟩
  · exact ⟨_, [], rfl, ⟨none, 0, rfl, Nat.le_refl _, Nat.zero_le _, fun h => absurd rfl h⟩, Nat.zero_le _⟩
  · simp only [if_true] at hmm
    subst hmm
    obtain ⟨B, hB⟩ := choose_lt (α := Bool) (n := m) (p := fun i b => V i = .bool b) (fun i hi => by
      obtain ⟨b, h1, -⟩ := DataW.trod_bool Try.underlying4 (hx i hi).2
      exact ⟨b, by simpa using h1⟩)
    have hlen : ((List.range len).map B).length = len := by simp
    have hb := bulk_len ((List.range len).map D)
    refine ⟨_, (List.range len).map B, rfl, ⟨some a, m, by rw [hlen], by omega, hm, fun hn => ?_⟩, by rw [hlen]; simp only [Rows.uptoBulk]; simp at hb; omega⟩
    rw [hlen] at hn
    obtain ⟨b, o, rfl⟩ := plain (hx 0 (by omega)).1
    refine ⟨b, o, rfl, fun j u hj => ?_⟩
    have hjl : j < len := by
      have := (List.getElem?_eq_some_iff.1 hj).1
      simpa using this
    rw [← add_at, (hx j (by omega)).1, hB j (by omega), ← hj]
    simp [hjl]
set_option maxRecDepth 100000 in
theorem flags_arg {v : Value} {d : DataW H} {p : List MemPlace} (hv : Value.okWide Try.prog W .any base 50 v) (h : DataW.Trod enc Try.prog W 0 (fun _ => true) true 50 v d p) : ∃ l, IsFlags W v l ∧ l.length ≤ Rows.uptoBulk d := by
  obtain ⟨a1, len, cap, rfl⟩ := okWide_slice Try.underlying50 hv
  obtain ⟨fuel, hf⟩ := h
  simp only [Value.cells] at hf
  obtain ⟨v, l, e, h1, h2⟩ := flags_cells hf
  obtain rfl : _ = v := by simpa using e
  exact ⟨l, h1, h2⟩
end
end Ta
end Go.Proofs.Ytdodmjcbjknneaa
