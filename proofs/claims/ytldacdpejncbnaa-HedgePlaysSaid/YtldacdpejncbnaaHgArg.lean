/-
  Layer 15's statements: lists of texts, and of acts, as arguments.
-/
import Derived.Test.YtldacdpejncbnaaFrame
import Derived.Test.YtldacdpejncbnaaHgVis
import Derived.LaidSub
import Derived.Deep.Slices
import Derived.Deep.Strs
import Derived.SliceStrings
namespace Go.Proofs.Ytldacdpejncbnaa
open Go.ChangeShapes Go.WideShapes Go.ChangeAt Go.RowKit Go.Joins Go.Deep
namespace Hg

/-- A list of texts that came in. -/
def IsTx (w : World) (v : Value) (l : List ByteArray) : Prop :=
  ∃ ao cap, v = .slice ao l.length cap ∧ (l ≠ [] → ∃ b o, ao = some ⟨b, o, none⟩ ∧ ∀ (i : Nat) (h : i < l.length), w.cell? ⟨b, o + i, none⟩ = some (.string l[i]))
theorem IsTx.on {w x : World} {v : Value} {l : List ByteArray} (h : IsTx w v l) (hb : Below w.heap.size w x) : IsTx x v l := by
  obtain ⟨ao, cap, hv, h1⟩ := h
  refine ⟨ao, cap, hv, fun hn => ?_⟩
  obtain ⟨b, o, e, hc⟩ := h1 hn
  exact ⟨b, o, e, fun i hi => (hb.cell (World.block_lt_of_cell? w _ (hc i hi))).trans (hc i hi)⟩
/-- What an act holds. -/
structure Act where
  kind : Int
  n : Int
  key : ByteArray
instance : Inhabited Act := ⟨⟨0, 0, ByteArray.empty⟩⟩
def IsActs (w : World) (v : Value) (l : List Act) : Prop :=
  ∃ ao cap, v = .slice ao l.length cap ∧ (l ≠ [] → ∃ b o, ao = some ⟨b, o, none⟩ ∧ ∀ (i : Nat) (h : i < l.length), w.cell? ⟨b, o + i * 3, none⟩ = some (.int .i64 l[i].kind) ∧ w.cell? ⟨b, o + i * 3 + 1, none⟩ = some (.int .i64 l[i].n) ∧ w.cell? ⟨b, o + i * 3 + 2, none⟩ = some (.string l[i].key))
theorem IsActs.on {w x : World} {v : Value} {l : List Act} (h : IsActs w v l) (hb : Below w.heap.size w x) : IsActs x v l := by
  obtain ⟨ao, cap, hv, h1⟩ := h
  refine ⟨ao, cap, hv, fun hn => ?_⟩
  obtain ⟨b, o, e, hc⟩ := h1 hn
  refine ⟨b, o, e, fun i hi => ?_⟩
  obtain ⟨c1, c2, c3⟩ := hc i hi
  exact ⟨(hb.cell (World.block_lt_of_cell? w _ c1)).trans c1, (hb.cell (World.block_lt_of_cell? w _ c2)).trans c2, (hb.cell (World.block_lt_of_cell? w _ c3)).trans c3⟩
theorem add_at (b o i : Nat) : (⟨b, o, none⟩ : Addr).add i = ⟨b, o + i, none⟩ := by unfold Addr.add; split <;> simp_all
/-- A slice that holds a cell lies plainly. -/
theorem plain {W : World} {a : Addr} {u : Value} (h : W.cell? (a.add 0) = some u) : ∃ b o, a = ⟨b, o, none⟩ := by
  obtain ⟨b, o, s⟩ := a
  obtain rfl : s = none := by simpa [Addr.add] using World.cell?_spot h
  exact ⟨b, o, rfl⟩
theorem cellsTx : Try.prog.cellsOf 9 = 1 := by kernel_rfl
theorem cellsInt : Try.prog.cellsOf 3 = 1 := by kernel_rfl
theorem cellsAct : Try.prog.cellsOf 28 = 3 := by kernel_rfl
theorem weights_mem {H : Type} {P : Program} {e : TypeId} : ∀ {ds : List (DataW H)} {d : DataW H} {n : Nat}, d ∈ ds → n ∈ d.weights P e → n ∈ DataW.weightsAll P e ds
  | c :: ds, d, n, h, hn => by
    rw [DataW.weightsAll, List.mem_append]
    rcases List.mem_cons.1 h with rfl | h
    · exact .inl hn
    · exact .inr (weights_mem h hn)
section
variable {H : Type} {enc : TypeId × Value → H} {W : World} {base : Nat} {held : Bool}
theorem texts_arg {v : Value} {d : DataW H} {p : List MemPlace} (hv : Value.okWide Try.prog W .any base 48 v) (h : DataW.Trod enc Try.prog W 0 (fun _ => true) true 48 v d p) :
    ∃ l, IsTx W v l ∧ ((∀ n ∈ d.weights Try.prog 48, n ≤ reachBytes) → ∀ s ∈ l, s.size ≤ keyMax) := by
  obtain ⟨a1, len, cap, rfl⟩ := okWide_slice Try.underlying48 hv
  obtain ⟨fuel, hf⟩ := h
  rcases open_strings Try.underlying48 Try.underlying9 cellsTx hf with ⟨hcs, -⟩ | ⟨a, len', cap', ss, hcs, -, hl, hm, hz, hx, hcell, -⟩
  · simp [Value.cells] at hcs
    obtain ⟨rfl, rfl, rfl⟩ := hcs
    exact ⟨[], ⟨none, 0, rfl, fun h => absurd rfl h⟩, fun _ s h => by simp at h⟩
  · simp [Value.cells] at hcs
    obtain ⟨rfl, rfl, rfl⟩ := hcs
    simp only [if_true] at hz
    have hlen : (ss.take len).length = len := by rw [List.length_take]; omega
    refine ⟨ss.take len, ⟨some a, cap, by rw [hlen], fun hne => ?_⟩, fun hw s hs => ?_⟩
    · have hpos : 0 < len := by
        rcases Nat.eq_zero_or_pos len with h0 | h0
        · subst h0; exact absurd rfl hne
        · exact h0
      obtain ⟨b, o, rfl⟩ := plain (hcell 0 (by omega))
      refine ⟨b, o, rfl, fun i hi => ?_⟩
      rw [hlen] at hi
      have h1 := hcell i (by omega)
      rw [add_at] at h1
      rw [h1, List.getElem_take, List.getD, List.getElem?_eq_getElem (by omega), Option.getD_some]
    · obtain ⟨rfl, -⟩ := Prod.mk.inj hx
      have hmem : (DataW.lit (.string s.data.toList) : DataW H) ∈ strs (ss.take len) := List.mem_map.2 ⟨s, hs, rfl⟩
      have h2 := hw s.data.toList.length (by
        rw [DataW.weights, Try.underlying48]
        refine List.mem_cons_of_mem _ (List.mem_append_left _ (weights_mem hmem ?_))
        rw [DataW.weights]
        exact List.mem_singleton.2 rfl)
      rw [Lib.size_eq]
      unfold keyMax
      unfold reachBytes at h2
      omega
theorem act_cells {n : Nat} {cs : List Value} {y : DataW H × List MemPlace} (hl : cs.length = 3) (h : DataW.trod enc Try.prog W base (fun _ => true) held n 28 cs = some y) : ∃ a : Act, cs = [.int .i64 a.kind, .int .i64 a.n, .string a.key] := by
  match cs, hl with
  | [c0, c1, c2], _ =>
    obtain ⟨y0, y1, y2, n, hx, _, h0, h1, h2⟩ := trod_struct3 Try.underlying28 h
    simp only [cellsInt, cellsTx, List.drop_zero, List.drop_succ_cons, List.take_succ_cons, List.take_zero] at h0 h1 h2
    obtain ⟨k, e0, -, -⟩ := DataW.trod_int Try.underlying3 h0
    obtain ⟨z, e1, -, -⟩ := DataW.trod_int Try.underlying3 h1
    obtain ⟨s, e2, -, -⟩ := DataW.trod_string Try.underlying9 h2
    obtain rfl : c0 = _ := by simpa using e0
    obtain rfl : c1 = _ := by simpa using e1
    obtain rfl : c2 = _ := by simpa using e2
    exact ⟨⟨k, z, s⟩, rfl⟩
theorem acts_arg {v : Value} {d : DataW H} {p : List MemPlace} (hv : Value.okWide Try.prog W .any base 22 v) (h : DataW.Trod enc Try.prog W 0 (fun _ => true) true 22 v d p) : ∃ l, IsActs W v l := by
  obtain ⟨a1, len, cap, rfl⟩ := okWide_slice Try.underlying22 hv
  obtain ⟨fuel, hf⟩ := h
  rcases open_slice Try.underlying22 hf with ⟨hcs, -⟩ | ⟨a, len', cap', m, n, D, Pl, hcs, -, hl, hm, hmm, hx, hi⟩
  · simp [Value.cells] at hcs
    obtain ⟨rfl, rfl, rfl⟩ := hcs
    exact ⟨[], none, 0, rfl, fun h => absurd rfl h⟩
  · simp [Value.cells] at hcs
    obtain ⟨rfl, rfl, rfl⟩ := hcs
    simp only [if_true] at hmm
    subst hmm
    rw [cellsAct] at hi
    obtain ⟨f, hff⟩ := choose_lt (α := Act) (n := len) (p := fun i q => ∀ j u, [Value.int .i64 q.kind, .int .i64 q.n, .string q.key][j]? = some u → W.cell? ((a.add (i * 3)).add j) = some u) (fun i hil => by
      obtain ⟨cs', hc, ht⟩ := hi i (by omega)
      obtain ⟨_, hcl, hat⟩ := World.cells?_some hc
      obtain ⟨q, rfl⟩ := act_cells hcl ht
      refine ⟨q, fun j u hu => ?_⟩
      have hj : j < 3 := (List.getElem?_eq_some_iff.1 hu).1
      rw [hat j hj]
      exact hu)
    have hlen : ((List.range len).map f).length = len := by rw [List.length_map, List.length_range]
    refine ⟨(List.range len).map f, some a, m, by rw [hlen], fun hne => ?_⟩
    have hpos : 0 < len := by
      rcases Nat.eq_zero_or_pos len with h0 | h0
      · subst h0; exact absurd rfl hne
      · exact h0
    obtain ⟨b, o, rfl⟩ : ∃ b o, a = ⟨b, o, none⟩ := by
      have h4 := hff 0 hpos 0 _ rfl
      rw [Nat.zero_mul] at h4
      obtain ⟨b, o, s⟩ := a
      obtain rfl : s = none := by simpa [Addr.add] using World.cell?_spot h4
      exact ⟨b, o, rfl⟩
    refine ⟨b, o, rfl, fun i hil => ?_⟩
    rw [hlen] at hil
    have h4 := hff i hil
    simp only [add_at] at h4
    have e : ((List.range len).map f)[i]'(by rw [hlen]; exact hil) = f i := by simp
    rw [e]
    exact ⟨h4 0 _ rfl, h4 1 _ rfl, h4 2 _ rfl⟩
end
end Hg
end Go.Proofs.Ytldacdpejncbnaa
