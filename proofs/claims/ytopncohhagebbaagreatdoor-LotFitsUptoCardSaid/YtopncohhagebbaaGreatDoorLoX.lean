/-
  A tuple as an argument: it is six texts.
  Layer 11: a list of tuples as an argument.
-/
import Derived.Test.YtopncohhagebbaaGreatDoorFrame
import Derived.Test.YtopncohhagebbaaGreatDoorLoP
import Derived.Test.YtopncohhagebbaaGreatDoorCnArg
import Derived.LaidSub
import Derived.Deep.Slices
namespace Go.Proofs.YtopncohhagebbaaGreatDoor.Tup
open Go.ChangeShapes Go.WideShapes Go.ChangeAt Go.RowKit Go.Joins

theorem cellsT : Tryz.prog.cellsOf 57 = 6 := by kernel_rfl
theorem cellsS : Tryz.prog.cellsOf 55 = 3 := by kernel_rfl
theorem cellsG : Tryz.prog.cellsOf 9 = 1 := by kernel_rfl
section
variable {H : Type} {enc : TypeId × Value → H} {w W : World} {base : Nat} {spare : Nat → Bool} {held : Bool}
theorem text_of {n : Nat} {v : Value} {y : DataW H × List MemPlace} (h : DataW.trod enc Tryz.prog w base spare held n 9 [v] = some y) : ∃ s : ByteArray, v = .string s ∧ y = (.lit (.string s.data.toList), []) ∧ s.size ≤ maxLen := by
  obtain ⟨s, e, hy, hs⟩ := DataW.trod_string Tryz.underlying9 h
  simp at e
  exact ⟨s, e, hy, hs⟩
end
end Go.Proofs.YtopncohhagebbaaGreatDoor.Tup

namespace Go.Proofs.YtopncohhagebbaaGreatDoor
open Go.ChangeShapes Go.WideShapes Go.ChangeAt Go.RowKit Go.Joins Go.Deep
namespace Lo
open Bond (L3)
open Who (bs bs_self)
theorem plain_add (b o i : Nat) : (⟨b, o, none⟩ : Addr).add i = ⟨b, o + i, none⟩ := by unfold Addr.add; split <;> simp_all
/-- How much a tuple holds. -/
def wt (p : L3 × L3) : Nat := p.1.1.length + p.1.2.1.length + p.1.2.2.length + p.2.1.length + p.2.2.1.length + p.2.2.2.length + 8
def wts : List (L3 × L3) → Nat
  | [] => 0
  | p :: l => wt p + wts l
set_option maxRecDepth 100000 in
theorem tuple_cells {H : Type} {enc : TypeId × Value → H} {W : World} {base n : Nat} {spare : Nat → Bool} {held : Bool} {cs : List Value} {y : DataW H × List MemPlace} (hl : cs.length = 6) (h : DataW.trod enc Tryz.prog W base spare held n 57 cs = some y) :
    ∃ p : L3 × L3, cs = cells6 p ∧ Rows.uptoBulk y.1 = wt p := by
  match cs, hl with
  | [c0, c1, c2, c3, c4, c5], _ =>
    obtain ⟨y0, y1, y2, y3, n, hx, _, h0, h1, h2, h3⟩ := trod_struct4 Tryz.underlying57 h
    simp only [Tup.cellsG, Tup.cellsS, List.drop_zero, List.drop_succ_cons, List.take_succ_cons, List.take_zero] at h0 h1 h2 h3
    obtain ⟨z0, z1, z2, m, hz, _, g0, g1, g2⟩ := Go.Deep.trod_struct3 Tryz.underlying55 h3
    simp only [Tup.cellsG, List.drop_zero, List.drop_succ_cons, List.take_succ_cons, List.take_zero] at g0 g1 g2
    obtain ⟨s0, rfl, rfl, u0⟩ := Tup.text_of h0
    obtain ⟨s1, rfl, rfl, u1⟩ := Tup.text_of h1
    obtain ⟨s2, rfl, rfl, u2⟩ := Tup.text_of h2
    obtain ⟨s3, rfl, rfl, u3⟩ := Tup.text_of g0
    obtain ⟨s4, rfl, rfl, u4⟩ := Tup.text_of g1
    obtain ⟨s5, rfl, rfl, u5⟩ := Tup.text_of g2
    subst hz
    subst hx
    refine ⟨((s0.data.toList, s1.data.toList, s2.data.toList), (s3.data.toList, s4.data.toList, s5.data.toList)), ?_, ?_⟩
    · simp only [cells6, bs_self]
    · simp only [Rows.uptoBulk, Rows.uptoBulkAll, wt]
      omega
theorem bulk_all {H : Type} (D : Nat → DataW H) (f : Nat → L3 × L3) : ∀ (is : List Nat), (∀ i ∈ is, Rows.uptoBulk (D i) = wt (f i)) → Rows.uptoBulkAll (is.map D) = wts (is.map f)
  | [], _ => rfl
  | i :: is, h => by
    rw [List.map_cons, List.map_cons, Rows.uptoBulkAll, wts, h i (List.mem_cons_self ..), bulk_all D f is (fun j hj => h j (List.mem_cons_of_mem _ hj))]
set_option maxRecDepth 100000 in
theorem tups_arg {H : Type} {enc : TypeId × Value → H} {W : World} {base : Nat} {v : Value} {d : DataW H} {p : List MemPlace} (hv : Value.okWide Tryz.prog W .any base 53 v) (h : DataW.Trod enc Tryz.prog W 0 (fun _ => true) true 53 v d p) :
    ∃ l, IsTups W v l ∧ (Rows.uptoBulk d ≤ 1048576 → wts l ≤ 1048576) := by
  obtain ⟨a1, len, cap, rfl⟩ := okWide_slice Tryz.underlying53 hv
  obtain ⟨fuel, hf⟩ := h
  rcases open_slice Tryz.underlying53 hf with ⟨hcs, -⟩ | ⟨a, len', cap', m, n, D, Pl, hcs, -, hl, hm, hmm, hx, hi⟩
  · simp [Value.cells] at hcs
    obtain ⟨rfl, rfl, rfl⟩ := hcs
    exact ⟨[], ⟨none, 0, rfl, fun h => absurd rfl h⟩, fun _ => Nat.zero_le _⟩
  · simp [Value.cells] at hcs
    obtain ⟨rfl, rfl, rfl⟩ := hcs
    simp only [if_true] at hmm
    obtain ⟨f, hff⟩ := choose_lt (α := L3 × L3) (n := len) (p := fun i q => (∀ j u, (cells6 q)[j]? = some u → W.cell? ((a.add (i * 6)).add j) = some u) ∧ Rows.uptoBulk (D i) = wt q) (fun i hil => by
      obtain ⟨cs', hc, ht⟩ := hi i (by omega)
      rw [Tup.cellsT] at hc
      obtain ⟨_, hcl, hat⟩ := World.cells?_some hc
      obtain ⟨q, rfl, hw⟩ := tuple_cells hcl ht
      refine ⟨q, fun j u hu => ?_, hw⟩
      have hj : j < 6 := (List.getElem?_eq_some_iff.1 hu).1
      rw [hat j hj]
      exact hu)
    have hlen : ((List.range len).map f).length = len := by rw [List.length_map, List.length_range]
    refine ⟨(List.range len).map f, ⟨some a, cap, by rw [hlen], fun hne => ?_⟩, fun hb => ?_⟩
    · obtain ⟨ab, ao, spot⟩ := a
      have hpos : 0 < len := by
        rcases Nat.eq_zero_or_pos len with h0 | h0
        · subst h0; exact absurd rfl hne
        · exact h0
      have hspot : spot = none := by simpa [Addr.add] using World.cell?_spot ((hff 0 hpos).1 0 _ rfl)
      subst hspot
      refine ⟨ab, ao, rfl, fun i hil j u hu => ?_⟩
      rw [hlen] at hil
      have h1 := (hff i hil).1 j u (by simpa using hu)
      rw [plain_add, plain_add] at h1
      exact h1
    · obtain ⟨rfl, -⟩ := Prod.mk.inj hx
      simp only [Rows.uptoBulk] at hb
      have e := bulk_all D f (List.range len) (fun i hi => (hff i (List.mem_range.1 hi)).2)
      omega
theorem wts_small : ∀ (l : List (L3 × L3)) (n : Nat), wts l ≤ n → (∀ p ∈ l, Fits n p) ∧ l.length ≤ n
  | [], n, _ => ⟨fun _ h => by simp at h, Nat.zero_le _⟩
  | p :: l, n, h => by
    rw [wts] at h
    have hw : wt p = p.1.1.length + p.1.2.1.length + p.1.2.2.length + p.2.1.length + p.2.2.1.length + p.2.2.2.length + 8 := rfl
    obtain ⟨h1, h2⟩ := wts_small l (n - wt p) (by omega)
    refine ⟨fun q hq => ?_, by rw [List.length_cons]; omega⟩
    rw [List.mem_cons] at hq
    rcases hq with rfl | hq
    · exact ⟨⟨by omega, by omega, by omega⟩, by omega, by omega, by omega⟩
    · obtain ⟨⟨a, b, c⟩, d, e, f⟩ := h1 q hq
      exact ⟨⟨by omega, by omega, by omega⟩, by omega, by omega, by omega⟩
theorem Fits.mono {n m : Nat} {p : L3 × L3} (h : Fits n p) (hm : n ≤ m) : Fits m p := by
  obtain ⟨⟨a, b, c⟩, d, e, f⟩ := h
  exact ⟨⟨by omega, by omega, by omega⟩, by omega, by omega, by omega⟩
theorem tups_small {l : List (L3 × L3)} (h : wts l ≤ 1048576) : (∀ p ∈ l, Fits 4000000 p) ∧ l.length ≤ 4000000 :=
  ⟨fun p hp => ((wts_small l _ h).1 p hp).mono (by decide), Nat.le_trans (wts_small l _ h).2 (by decide)⟩
set_option maxRecDepth 100000 in
theorem tuple_arg {H : Type} {enc : TypeId × Value → H} {W : World} {base : Nat} {v : Value} {d : DataW H} {p : List MemPlace} (hv : Value.okWide Tryz.prog W .any base 57 v) (h : DataW.Trod enc Tryz.prog W 0 (fun _ => true) true 57 v d p) :
    ∃ q : L3 × L3, v = agg6 q ∧ (Rows.uptoBulk d ≤ 1048576 → Fits 4000000 q) := by
  obtain ⟨cs, rfl, hsz⟩ := okWide_struct Tryz.underlying57 hv
  obtain ⟨fuel, hf⟩ := h
  simp only [Value.cells] at hf
  obtain ⟨q, hq, hw⟩ := tuple_cells (by rw [Array.length_toList]; exact hsz.trans Tup.cellsT) hf
  obtain ⟨c⟩ := cs
  obtain rfl : c = cells6 q := hq
  have e : wt q = q.1.1.length + q.1.2.1.length + q.1.2.2.length + q.2.1.length + q.2.2.1.length + q.2.2.2.length + 8 := rfl
  have hw2 : Rows.uptoBulk d = wt q := hw
  clear hw hf hv hsz
  exact ⟨q, rfl, fun h => ⟨⟨by omega, by omega, by omega⟩, by omega, by omega, by omega⟩⟩
set_option maxRecDepth 100000 in
theorem al_arg {H : Type} {enc : TypeId × Value → H} {W : World} {base : Nat} {v : Value} {d : DataW H} {p : List MemPlace} (hv : Value.okWide Tryz.prog W .any base 43 v) (h : DataW.Trod enc Tryz.prog W 0 (fun _ => true) true 43 v d p) :
    ∃ a : Gr.Al, v = Gr.alV a ∧ a.ty.size ≤ maxLen ∧ a.rel.size ≤ maxLen := by
  obtain ⟨cs, rfl, hsz⟩ := okWide_struct Tryz.underlying43 hv
  obtain ⟨fuel, hf⟩ := h
  simp only [Value.cells] at hf
  obtain ⟨a, ha, h1, h2⟩ := Cn.al_cells (by rw [Array.length_toList]; exact hsz.trans Cn.cellsAl) hf
  exact ⟨a, ha, h1, h2⟩
end Lo
end Go.Proofs.YtopncohhagebbaaGreatDoor
