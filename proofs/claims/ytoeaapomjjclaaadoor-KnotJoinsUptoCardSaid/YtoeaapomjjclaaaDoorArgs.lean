/-
  Arguments of layer 4's statements: a list of bytes, a pair of texts, a list of tuples. And the library's table, out of what a row lists.
-/
import Derived.Test.YtoeaapomjjclaaaDoorFrame
import Derived.Test.YtoeaapomjjclaaaDoorTup
import Derived.Test.YtoeaapomjjclaaaDoorTupsB
import Derived.Lib.LaidTab
import Derived.LaidSub
import Derived.Deep.Slices
import Derived.Lib.SmallJoins
namespace Go.Proofs.YtoeaapomjjclaaaDoor
open Go.ChangeShapes Go.WideShapes Go.ChangeAt Go.RowKit Go.Joins Go.Deep
namespace Knot

/-- A list of bytes that came in. -/
def IsArg (w : World) (v : Value) (l : List UInt8) : Prop :=
  (v = .slice none 0 0 ∧ l = []) ∨ ∃ a cap, v = .slice (some a) l.length cap ∧ ∀ j u, (Lib.byteCells l)[j]? = some u → w.cell? (a.add j) = some u
theorem IsArg.below {w x : World} {v : Value} {l : List UInt8} (h : IsArg w v l) (hb : Below w.heap.size w x) : IsArg x v l := by
  rcases h with h | ⟨a, cap, hv, hc⟩
  · exact .inl h
  · refine .inr ⟨a, cap, hv, fun j u hj => ?_⟩
    have h1 := hc j u hj
    exact (hb.cell (World.block_lt_of_cell? w _ h1)).trans h1
theorem IsArg.len {w : World} {v : Value} {l : List UInt8} (h : IsArg w v l) : ∃ ao c, v = .slice ao l.length c := by
  rcases h with ⟨rfl, rfl⟩ | ⟨a, cap, hv, hc⟩
  · exact ⟨_, _, rfl⟩
  · exact ⟨_, _, hv⟩

theorem cellsByte : Tryd.prog.cellsOf 5 = 1 := by kernel_rfl
theorem cellsText : Tryd.prog.cellsOf 9 = 1 := by kernel_rfl
section
variable {H : Type} {enc : TypeId × Value → H} {W : World} {base : Nat}
theorem bytes_arg {v : Value} {d : DataW H} {p : List MemPlace} (hv : Value.okWide Tryd.prog W .any base 43 v) (h : DataW.Trod enc Tryd.prog W 0 (fun _ => true) true 43 v d p) : ∃ l, IsArg W v l := by
  obtain ⟨a1, len, cap, rfl⟩ := okWide_slice Tryd.underlying43 hv
  obtain ⟨fuel, hf⟩ := h
  rcases open_ints Tryd.underlying43 Tryd.underlying5 cellsByte hf with ⟨hcs, -⟩ | ⟨a, len', cap', zs, hcs, _, hl, hm, hz, -, hcell, hwz⟩
  · simp [Value.cells] at hcs
    obtain ⟨rfl, rfl, rfl⟩ := hcs
    exact ⟨[], .inl ⟨rfl, rfl⟩⟩
  · simp [Value.cells] at hcs
    obtain ⟨rfl, rfl, rfl⟩ := hcs
    simp only [if_true] at hz
    have hlen : ((zs.take len).map fun n => UInt8.ofNat n.toNat).length = len := by simp; omega
    refine ⟨(zs.take len).map fun n => UInt8.ofNat n.toNat, .inr ⟨a, cap, by rw [hlen], fun j u hj => ?_⟩⟩
    have hjl : j < len := by
      have := (List.getElem?_eq_some_iff.1 hj).1
      rwa [Lib.byteCells_length, hlen] at this
    have hb := range_u8 hwz j
    have hzj : zs[j]? = some (zs[j]'(by omega)) := List.getElem?_eq_getElem (by omega)
    rw [hzj, Option.getD_some] at hb
    rw [hcell j (by omega), ← hj]
    simp only [Lib.byteCells, List.getElem?_map, List.getElem?_take, hjl, if_true, hzj, Option.map_some, List.getD, Option.getD_some]
    have e : ((UInt8.ofNat (zs[j]'(by omega)).toNat).toNat : Int) = zs[j]'(by omega) := by rw [UInt8.toNat_ofNat']; omega
    rw [e]

theorem pair_arg {v : Value} {d : DataW H} {p : List MemPlace} (hv : Value.okWide Tryd.prog W .any base 58 v) (h : DataW.Trod enc Tryd.prog W 0 (fun _ => true) true 58 v d p) :
    ∃ s t : ByteArray, v = .agg #[.string s, .string t] ∧ d = .agg [.lit (.string s.data.toList), .lit (.string t.data.toList)] ∧ s.size ≤ maxLen ∧ t.size ≤ maxLen := by
  obtain ⟨cs, rfl, hsz⟩ : ∃ cs, v = .agg cs ∧ cs.size = 2 := by
    simp only [Value.okWide, Tryd.underlying58] at hv
    obtain ⟨cs, h1, h2, _⟩ := hv
    exact ⟨cs, h1, h2.trans (by kernel_rfl)⟩
  obtain ⟨c0, c1, rfl⟩ := array2 hsz
  obtain ⟨fuel, hf⟩ := h
  obtain ⟨xs, m, -, hx, -, hl, hi⟩ := DataW.trod_array Tryd.underlying58 hf
  have h0 := hi 0 (by omega)
  have h1 := hi 1 (by omega)
  simp only [cellsText, Value.cells, Nat.zero_mul, Nat.one_mul, List.drop_zero, List.drop_succ_cons, List.take_succ_cons, List.take_zero] at h0 h1
  match xs, hl with
  | [y0, y1], _ =>
    obtain ⟨s, rfl, rfl, u0⟩ := Tup.text_of h0
    obtain ⟨t, rfl, rfl, u1⟩ := Tup.text_of h1
    obtain ⟨rfl, -⟩ := Prod.mk.inj hx
    exact ⟨s, t, rfl, rfl, u0, u1⟩
end

/-! ### a list of tuples -/
open Bond (L3)
open Who (bs bs_self)
/-- How much a tuple holds. -/
def wt (p : L3 × L3) : Nat := p.1.1.length + p.1.2.1.length + p.1.2.2.length + p.2.1.length + p.2.2.1.length + p.2.2.2.length + 8
def wts : List (L3 × L3) → Nat
  | [] => 0
  | p :: l => wt p + wts l
theorem tuple_cells {H : Type} {enc : TypeId × Value → H} {W : World} {base n : Nat} {spare : Nat → Bool} {held : Bool} {cs : List Value} {y : DataW H × List MemPlace} (hl : cs.length = 6) (h : DataW.trod enc Tryd.prog W base spare held n 38 cs = some y) :
    ∃ p : L3 × L3, cs = cells6 p ∧ Rows.uptoBulk y.1 = wt p := by
  match cs, hl with
  | [c0, c1, c2, c3, c4, c5], _ =>
    obtain ⟨y0, y1, y2, y3, n, hx, _, h0, h1, h2, h3⟩ := trod_struct4 Tryd.underlying38 h
    simp only [Tup.cellsG, Tup.cellsS, List.drop_zero, List.drop_succ_cons, List.take_succ_cons, List.take_zero] at h0 h1 h2 h3
    obtain ⟨z0, z1, z2, m, hz, _, g0, g1, g2⟩ := Go.Deep.trod_struct3 Tryd.underlying36 h3
    simp only [Tup.cellsG, List.drop_zero, List.drop_succ_cons, List.take_succ_cons, List.take_zero] at g0 g1 g2
    obtain ⟨s0, rfl, rfl, u0⟩ := Tup.text_of h0
    obtain ⟨s1, rfl, rfl, u1⟩ := Tup.text_of h1
    obtain ⟨s2, rfl, rfl, u2⟩ := Tup.text_of h2
    obtain ⟨s3, rfl, rfl, u3⟩ := Tup.text_of g0
    obtain ⟨s4, rfl, rfl, u4⟩ := Tup.text_of g1
    obtain ⟨s5, rfl, rfl, u5⟩ := Tup.text_of g2
    subst hz
    subst hx
    refine ⟨((s0.data.toList, s1.data.toList, s2.data.toList), (s3.data.toList, s4.data.toList, s5.data.toList)), ?_, ?_⟩
    · simp only [cells6, bs_self]
    · simp only [Rows.uptoBulk, Rows.uptoBulkAll, wt]
      omega
theorem bulk_all {H : Type} (D : Nat → DataW H) (f : Nat → L3 × L3) : ∀ (is : List Nat), (∀ i ∈ is, Rows.uptoBulk (D i) = wt (f i)) → Rows.uptoBulkAll (is.map D) = wts (is.map f)
  | [], _ => rfl
  | i :: is, h => by
    rw [List.map_cons, List.map_cons, Rows.uptoBulkAll, wts, h i (List.mem_cons_self ..), bulk_all D f is (fun j hj => h j (List.mem_cons_of_mem _ hj))]
theorem tups_arg {H : Type} {enc : TypeId × Value → H} {W : World} {base : Nat} {v : Value} {d : DataW H} {p : List MemPlace} (hv : Value.okWide Tryd.prog W .any base 22 v) (h : DataW.Trod enc Tryd.prog W 0 (fun _ => true) true 22 v d p) :
    ∃ l, IsTups W v l ∧ (Rows.uptoBulk d ≤ 1048576 → wts l ≤ 1048576) := by
  obtain ⟨a1, len, cap, rfl⟩ := okWide_slice Tryd.underlying22 hv
  obtain ⟨fuel, hf⟩ := h
  rcases open_slice Tryd.underlying22 hf with ⟨hcs, -⟩ | ⟨a, len', cap', m, n, D, Pl, hcs, -, hl, hm, hmm, hx, hi⟩
  · simp [Value.cells] at hcs
    obtain ⟨rfl, rfl, rfl⟩ := hcs
    exact ⟨[], ⟨none, 0, rfl, fun h => absurd rfl h⟩, fun _ => Nat.zero_le _⟩
  · simp [Value.cells] at hcs
    obtain ⟨rfl, rfl, rfl⟩ := hcs
    simp only [if_true] at hmm
    obtain ⟨f, hff⟩ := choose_lt (α := L3 × L3) (n := len) (p := fun i q => (∀ j u, (cells6 q)[j]? = some u → W.cell? ((a.add (i * 6)).add j) = some u) ∧ Rows.uptoBulk (D i) = wt q) (fun i hil => by
      obtain ⟨cs', hc, ht⟩ := hi i (by omega)
      rw [Tup.cellsT] at hc
      obtain ⟨_, hcl, hat⟩ := World.cells?_some hc
      obtain ⟨q, rfl, hw⟩ := tuple_cells hcl ht
      refine ⟨q, fun j u hu => ?_, hw⟩
      have hj : j < 6 := (List.getElem?_eq_some_iff.1 hu).1
      rw [hat j hj]
      exact hu)
    have hlen : ((List.range len).map f).length = len := by rw [List.length_map, List.length_range]
    refine ⟨(List.range len).map f, ⟨some a, cap, by rw [hlen], fun hne => ?_⟩, fun hb => ?_⟩
    · obtain ⟨ab, ao, spot⟩ := a
      have hpos : 0 < len := by
        rcases Nat.eq_zero_or_pos len with h0 | h0
        · subst h0; exact absurd rfl hne
        · exact h0
      have hspot : spot = none := by simpa [Addr.add] using World.cell?_spot ((hff 0 hpos).1 0 _ rfl)
      subst hspot
      refine ⟨ab, ao, rfl, fun i hil j u hu => ?_⟩
      rw [hlen] at hil
      have h1 := (hff i hil).1 j u (by simpa using hu)
      rw [Lib.add_plain, Lib.add_plain] at h1
      exact h1
    · obtain ⟨rfl, -⟩ := Prod.mk.inj hx
      simp only [Rows.uptoBulk] at hb
      have e := bulk_all D f (List.range len) (fun i hi => (hff i (List.mem_range.1 hi)).2)
      omega

theorem wts_small : ∀ (l : List (L3 × L3)) (n : Nat), n ≤ 1048576 → wts l ≤ n → SmallAll n l ∧ l.length ≤ n ∧ (l.flatMap tupleB).length ≤ 9 * wts l
  | [], n, _, _ => ⟨fun _ h => by simp at h, Nat.zero_le _, Nat.zero_le _⟩
  | p :: l, n, hn, h => by
    rw [wts] at h
    have hw : wt p = p.1.1.length + p.1.2.1.length + p.1.2.2.length + p.2.1.length + p.2.2.1.length + p.2.2.2.length + 8 := rfl
    obtain ⟨h1, h2, h3⟩ := wts_small l (n - wt p) (by omega) (by omega)
    refine ⟨fun q hq => ?_, by rw [List.length_cons]; omega, ?_⟩
    · rw [List.mem_cons] at hq
      rcases hq with rfl | hq
      · exact ⟨⟨by omega, by omega, by omega⟩, ⟨by omega, by omega, by omega⟩⟩
      · obtain ⟨⟨a, b, c⟩, ⟨d, e, f⟩⟩ := h1 q hq
        exact ⟨⟨by omega, by omega, by omega⟩, ⟨by omega, by omega, by omega⟩⟩
    · rw [List.flatMap_cons, List.length_append, wts]
      have ht : (tupleB p).length ≤ 9 * wt p := by
        rw [tupleB, List.length_append]
        have a := three_len (y := p.1) (by omega) (by omega) (by omega)
        have b := three_len (y := p.2) (by omega) (by omega) (by omega)
        omega
      omega

/-! ### the table -/
theorem own : ownKnob Tryd.prog.godebug = none := by kernel_rfl
theorem gTab : Tryd.prog.globalNamed "internal/strconv.uint64pow10" = some 0 := by kernel_rfl
theorem gTabType : (Tryd.prog.globals[0]?).map (·.type) = some 95 := by kernel_rfl
theorem cellsTab : Tryd.prog.cellsOf 95 = 20 := by kernel_rfl
theorem cellsLong : Tryd.prog.cellsOf 84 = 1 := by kernel_rfl
theorem tab_data : (Rows.laid_internal_strconv_uint64pow10 : DataW Unit) = Lib.tabData .u64 Lib.pow10Tab := by kernel_rfl
/-- What a row's list gives: the table, whatever is done with new blocks. -/
theorem tab_of {W : World} (h : laidMet Tryd.prog [("internal/strconv.uint64pow10", Rows.laid_internal_strconv_uint64pow10)] W) : Tab W.heap.size W := by
  rw [tab_data] at h
  exact Lib.tabBelow_of_tabIs (Lib.tabIs_of_head (rest := []) gTab gTabType Tryd.underlying95 Tryd.underlying84 cellsLong cellsTab h)
end Knot
end Go.Proofs.YtoeaapomjjclaaaDoor
