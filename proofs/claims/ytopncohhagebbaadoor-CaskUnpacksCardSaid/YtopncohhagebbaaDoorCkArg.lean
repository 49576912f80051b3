/-
  Layer 10's statements: a list of bytes as an argument; the library's table out of what a row lists. (Made of XArgs.)
-/
import Derived.Test.YtopncohhagebbaaDoorFrame
import Derived.Test.YtopncohhagebbaaDoorKgK
import Derived.Lib.LaidTab
import Derived.LaidSub
import Derived.Deep.Slices
import Derived.Lib.SmallJoins
namespace Go.Proofs.YtopncohhagebbaaDoor
open Go.ChangeShapes Go.WideShapes Go.ChangeAt Go.RowKit Go.Joins Go.Deep
namespace Knot

/-- A list of bytes that came in. -/
def IsArg (w : World) (v : Value) (l : List UInt8) : Prop :=
  (v = .slice none 0 0 ∧ l = []) ∨ ∃ a cap, v = .slice (some a) l.length cap ∧ ∀ j u, (Lib.byteCells l)[j]? = some u → w.cell? (a.add j) = some u
theorem IsArg.below {w x : World} {v : Value} {l : List UInt8} (h : IsArg w v l) (hb : Below w.heap.size w x) : IsArg x v l := by
  rcases h with h | ⟨a, cap, hv, hc⟩
  · exact .inl h
  · refine .inr ⟨a, cap, hv, fun j u hj => ?_⟩
    have h1 := hc j u hj
    exact (hb.cell (World.block_lt_of_cell? w _ h1)).trans h1
theorem IsArg.len {w : World} {v : Value} {l : List UInt8} (h : IsArg w v l) : ∃ ao c, v = .slice ao l.length c := by
  rcases h with ⟨rfl, rfl⟩ | ⟨a, cap, hv, hc⟩
  · exact ⟨_, _, rfl⟩
  · exact ⟨_, _, hv⟩

theorem cellsByte : Tryd.prog.cellsOf 5 = 1 := by kernel_rfl
theorem cellsText : Tryd.prog.cellsOf 9 = 1 := by kernel_rfl
section
variable {H : Type} {enc : TypeId × Value → H} {W : World} {base : Nat}
set_option maxRecDepth 100000 in
theorem bytes_arg {v : Value} {d : DataW H} {p : List MemPlace} (hv : Value.okWide Tryd.prog W .any base 22 v) (h : DataW.Trod enc Tryd.prog W 0 (fun _ => true) true 22 v d p) : ∃ l, IsArg W v l := by
  obtain ⟨a1, len, cap, rfl⟩ := okWide_slice Tryd.underlying22 hv
  obtain ⟨fuel, hf⟩ := h
  rcases open_ints Tryd.underlying22 Tryd.underlying5 cellsByte hf with ⟨hcs, -⟩ | ⟨a, len', cap', zs, hcs, _, hl, hm, hz, -, hcell, hwz⟩
  · simp [Value.cells] at hcs
    obtain ⟨rfl, rfl, rfl⟩ := hcs
    exact ⟨[], .inl ⟨rfl, rfl⟩⟩
  · simp [Value.cells] at hcs
    obtain ⟨rfl, rfl, rfl⟩ := hcs
    simp only [if_true] at hz
    have hlen : ((zs.take len).map fun n => UInt8.ofNat n.toNat).length = len := by simp; omega
    refine ⟨(zs.take len).map fun n => UInt8.ofNat n.toNat, .inr ⟨a, cap, by rw [hlen], fun j u hj => ?_⟩⟩
    have hjl : j < len := by
      have := (List.getElem?_eq_some_iff.1 hj).1
      rwa [Lib.byteCells_length, hlen] at this
    have hb := range_u8 hwz j
    have hzj : zs[j]? = some (zs[j]'(by omega)) := List.getElem?_eq_getElem (by omega)
    rw [hzj, Option.getD_some] at hb
    rw [hcell j (by omega), ← hj]
    simp only [Lib.byteCells, List.getElem?_map, List.getElem?_take, hjl, if_true, hzj, Option.map_some, List.getD, Option.getD_some]
    have e : ((UInt8.ofNat (zs[j]'(by omega)).toNat).toNat : Int) = zs[j]'(by omega) := by rw [UInt8.toNat_ofNat']; omega
    rw [e]

end
theorem own : ownKnob Tryd.prog.godebug = none := by kernel_rfl
theorem gTab : Tryd.prog.globalNamed "internal/strconv.uint64pow10" = some 0 := by kernel_rfl
theorem gTabType : (Tryd.prog.globals[0]?).map (·.type) = some 141 := by kernel_rfl
theorem cellsTab : Tryd.prog.cellsOf 141 = 20 := by kernel_rfl
theorem cellsLong : Tryd.prog.cellsOf 115 = 1 := by kernel_rfl
theorem tab_data : (Rows.laid_internal_strconv_uint64pow10 : DataW Unit) = Lib.tabData .u64 Lib.pow10Tab := by kernel_rfl
/-- What a row's list gives: the table, whatever is done with new blocks. -/
theorem tab_of {W : World} (h : laidMet Tryd.prog [("internal/strconv.uint64pow10", Rows.laid_internal_strconv_uint64pow10)] W) : Tab W.heap.size W := by
  rw [tab_data] at h
  exact Lib.tabBelow_of_tabIs (Lib.tabIs_of_head (rest := []) gTab gTabType Tryd.underlying141 Tryd.underlying115 cellsLong cellsTab h)
end Knot
end Go.Proofs.YtopncohhagebbaaDoor
