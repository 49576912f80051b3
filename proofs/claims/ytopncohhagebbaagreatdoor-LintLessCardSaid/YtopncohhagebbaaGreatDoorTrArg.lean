/-
  Layer 5 (tract): a node as an argument.
-/
import Derived.Test.YtopncohhagebbaaGreatDoorFrame
import Derived.Test.YtopncohhagebbaaGreatDoorTrMem
import Derived.Deep.Slices
import Derived.Lib.SmallJoins
namespace Go.Proofs.YtopncohhagebbaaGreatDoor
open Go.ChangeShapes Go.WideShapes Go.ChangeAt Go.RowKit Go.Joins Go.Deep
namespace Tr

theorem cellsNode : Tryz.prog.cellsOf 47 = 4 := by kernel_rfl
theorem cellsStr : Tryz.prog.cellsOf 9 = 1 := by kernel_rfl
theorem cellsInt : Tryz.prog.cellsOf 3 = 1 := by kernel_rfl
theorem cellsKids : Tryz.prog.cellsOf 45 = 1 := by kernel_rfl
instance : Inhabited Nd := ⟨.mk 0 none0 none0 []⟩
instance : Inhabited Value := ⟨.nilIface⟩

section
variable {H : Type} {enc : TypeId × Value → H} {W : World} {base : Nat} {spare : Nat → Bool} {held : Bool}
set_option maxRecDepth 100000 in
theorem node_cells : ∀ (fuel : Nat) (cs : List Value) (y : DataW H × List MemPlace), DataW.trod enc Tryz.prog W base spare held fuel 47 cs = some y → ∃ n, IsNode W n (.agg cs.toArray) := by
  intro fuel
  induction fuel using Nat.strongRecOn with
  | _ fuel ih =>
    intro cs y h
    obtain ⟨xs, n, hfu, -, hl, hlen, hf⟩ := DataW.trod_struct Tryz.underlying47 h
    rw [cellsNode] at hl
    match cs, hl with
    | [c0, c1, c2, c3], _ =>
    match xs, hlen with
    | [y0, y1, y2, y3], _ =>
    have g0 := hf 0 _ rfl
    have g1 := hf 1 _ rfl
    have g2 := hf 2 _ rfl
    have g3 := hf 3 _ rfl
    simp only [List.getElem?_cons_zero, List.getElem?_cons_succ] at g0 g1 g2 g3
    obtain ⟨k, e0, -, -⟩ := DataW.trod_int Tryz.underlying3 g0
    obtain ⟨a, e1, -, ha⟩ := DataW.trod_string Tryz.underlying9 g1
    obtain ⟨b, e2, -, hb⟩ := DataW.trod_string Tryz.underlying9 g2
    obtain rfl : c0 = .int .i64 k := by simpa [cellsInt] using e0
    obtain rfl : c1 = .string a := by simpa [cellsStr] using e1
    obtain rfl : c2 = .string b := by simpa [cellsStr] using e2
    rcases DataW.trod_slice Tryz.underlying45 g3 with ⟨e3, -⟩ | ⟨ad, len, cap, elems, rest, n', hfu', e3, -, hbs, hlc, hcm, hel, hat, -, -⟩
    · obtain rfl : c3 = .slice none 0 0 := by simpa [cellsKids] using e3
      refine ⟨.mk k a b [], ?_⟩
      rw [IsNode]
      refine ⟨none, 0, [], rfl, ⟨ha, hb⟩, fun h => absurd rfl h, ?_⟩
      rw [IsNodes]
    · obtain rfl : c3 = .slice (some ad) len cap := by simpa [cellsKids] using e3
      obtain ⟨f, hff⟩ := choose_lt (α := Nd × Value) (n := len) (p := fun i q => IsNode W q.1 q.2 ∧ q.2.cells.size = 4 ∧ ∀ j u, q.2.cells[j]? = some u → W.cell? ((ad.add (i * 4)).add j) = some u) (fun i hi => by
        have h1 := hat i hi
        rw [List.getElem?_eq_getElem (by omega)] at h1
        obtain ⟨cs', h2, h3⟩ := Option.bind_eq_some_iff.1 h1
        obtain ⟨m, hm⟩ := ih n' (by omega) cs' _ h3
        rw [cellsNode] at h2
        obtain ⟨_, hcl, hcell⟩ := World.cells?_some h2
        refine ⟨(m, .agg cs'.toArray), hm, by simpa [Value.cells] using hcl, fun j u hu => ?_⟩
        have hu' : cs'[j]? = some u := by simpa [Value.cells] using hu
        have hj : j < 4 := by
          have := (List.getElem?_eq_some_iff.1 hu').1
          omega
        rw [hcell j hj]
        exact hu')
      refine ⟨.mk k a b ((List.range len).map fun i => (f i).1), ?_⟩
      rw [IsNode]
      refine ⟨some ad, cap, (List.range len).map fun i => (f i).2, by simp, ⟨ha, hb⟩, fun hne => ?_, ?_⟩
      · obtain ⟨ab, ao, spot⟩ := ad
        have hpos : 0 < len := by
          rcases Nat.eq_zero_or_pos len with h0 | h0
          · subst h0; exact absurd rfl hne
          · exact h0
        have hspot : spot = none := by
          obtain ⟨-, h4, h5⟩ := hff 0 hpos
          have h6 := h5 0 _ (Array.getElem?_eq_getElem (by omega))
          simpa [Addr.add] using World.cell?_spot h6
        subst hspot
        refine ⟨ab, ao, rfl, fun i v hv => ?_⟩
        have hi : i < len := by
          have := (List.getElem?_eq_some_iff.1 hv).1
          simpa using this
        obtain ⟨-, h4, h5⟩ := hff i hi
        obtain rfl : (f i).2 = v := by simpa [hi] using hv
        refine ⟨h4, fun j u hu => ?_⟩
        have h6 := h5 j u hu
        rw [add_plain, add_plain] at h6
        exact h6
      · refine IsNodes.of (by simp) fun i hi v hv => ?_
        have hi' : i < len := by simpa using hi
        obtain rfl : (f i).2 = v := by simpa [hi'] using hv
        simpa using (hff i hi').1
end
end Tr
end Go.Proofs.YtopncohhagebbaaGreatDoor
