/-
  Layer 14's statements: lists of acts as arguments.
-/
import Derived.Test.YtkfmmdiflbnhgaaTgC
namespace Go.Proofs.Ytkfmmdiflbnhgaa
set_option maxRecDepth 100000
open Go.ChangeShapes Go.WideShapes Go.ChangeAt Go.RowKit Go.Joins Go.Deep
open Ta (Row IsBytes IsFlags IsAct IsActs bytes_cells flags_cells bulk_len bulk_mem add_at plain cellsInt cellsBs cellsFs)
namespace Ho
theorem cellsAct : Try.prog.cellsOf 85 = 4 := by kernel_rfl

section
variable {H : Type} {enc : TypeId × Value → H} {W : World} {base : Nat} {held : Bool}
theorem act_cells {n : Nat} {cs : List Value} {y : DataW H × List MemPlace} (hl : cs.length = 4) (h : DataW.trod enc Try.prog W base (fun _ => true) held n 85 cs = some y) : ∃ a, IsAct W cs a ∧ a.b.length ≤ Rows.uptoBulk y.1 ∧ a.c.length ≤ Rows.uptoBulk y.1 := by
  match cs, hl with
  | [c0, c1, c2, c3], _ =>
    obtain ⟨y0, y1, y2, y3, n, hx, _, h0, h1, h2, h3⟩ := trod_struct4 Try.underlying85 h
    simp only [cellsInt, cellsBs, cellsFs, List.drop_zero, List.drop_succ_cons, List.take_succ_cons, List.take_zero] at h0 h1 h2 h3
    obtain ⟨k, e0, -, w0⟩ := DataW.trod_int Try.underlying3 h0
    obtain ⟨z, e1, -, w1⟩ := DataW.trod_int Try.underlying3 h1
    obtain ⟨vb, b, e2, hb, ub⟩ := bytes_cells h2
    obtain ⟨vc, c, e3, hc, uc⟩ := flags_cells h3
    obtain rfl : c0 = _ := by simpa using e0
    obtain rfl : c1 = _ := by simpa using e1
    obtain rfl : c2 = _ := by simpa using e2
    obtain rfl : c3 = _ := by simpa using e3
    subst hx
    refine ⟨⟨k, z, b, c⟩, ⟨_, _, rfl, hb, hc, w0, w1⟩, ?_, ?_⟩ <;> simp only [Rows.uptoBulk, Rows.uptoBulkAll] <;> omega
theorem acts_arg {v : Value} {d : DataW H} {p : List MemPlace} (hv : Value.okWide Try.prog W .any base 74 v) (h : DataW.Trod enc Try.prog W 0 (fun _ => true) true 74 v d p) :
    ∃ l, IsActs W v l ∧ l.length ≤ Rows.uptoBulk d ∧ ∀ a ∈ l, a.b.length ≤ Rows.uptoBulk d ∧ a.c.length ≤ Rows.uptoBulk d := by
  obtain ⟨a1, len, cap, rfl⟩ := okWide_slice Try.underlying74 hv
  obtain ⟨fuel, hf⟩ := h
  rcases open_slice Try.underlying74 hf with ⟨hcs, -⟩ | ⟨a, len', cap', m, n, D, Pl, hcs, -, hl, hm, hmm, hx, hi⟩
  · simp [Value.cells] at hcs
    obtain ⟨rfl, rfl, rfl⟩ := hcs
    exact ⟨[], ⟨none, 0, rfl, Nat.le_refl _, Nat.zero_le _, fun h => absurd rfl h⟩, Nat.zero_le _, fun a h => by simp at h⟩
  · simp [Value.cells] at hcs
    obtain ⟨rfl, rfl, rfl⟩ := hcs
    simp only [if_true] at hmm
    subst hmm
    rw [cellsAct] at hi
    obtain ⟨f, hff⟩ := choose_lt (α := Ta.Act) (n := len) (p := fun i q => ∃ cs, (IsAct W cs q ∧ cs.length = 4) ∧ (∀ j u, cs[j]? = some u → W.cell? ((a.add (i * 4)).add j) = some u) ∧ q.b.length ≤ Rows.uptoBulk (D i) ∧ q.c.length ≤ Rows.uptoBulk (D i)) (fun i hil => by
      obtain ⟨cs', hc, ht⟩ := hi i (by omega)
      obtain ⟨_, hcl, hat⟩ := World.cells?_some hc
      obtain ⟨q, hq, u⟩ := act_cells hcl ht
      refine ⟨q, cs', ⟨hq, hcl⟩, fun j u hu => ?_, u⟩
      have hj : j < 4 := by have := (List.getElem?_eq_some_iff.1 hu).1; omega
      rw [hat j hj]
      exact hu)
    have hlen : ((List.range len).map f).length = len := by rw [List.length_map, List.length_range]
    obtain ⟨rfl, -⟩ := Prod.mk.inj hx
    have hB := bulk_len ((List.range len).map D)
    have hD : ∀ i, i < len → Rows.uptoBulk (D i) ≤ Rows.uptoBulkAll ((List.range len).map D) := fun i hi => bulk_mem (List.mem_map.2 ⟨i, List.mem_range.2 hi, rfl⟩)
    refine ⟨(List.range len).map f, ⟨some a, m, by rw [hlen], by omega, hm, fun hne => ?_⟩, by rw [hlen]; simp only [Rows.uptoBulk]; simp at hB; omega, fun q hq => ?_⟩
    · have hpos : 0 < len := by
        rcases Nat.eq_zero_or_pos len with h0 | h0
        · subst h0; exact absurd rfl hne
        · exact h0
      obtain ⟨b, o, rfl⟩ : ∃ b o, a = ⟨b, o, none⟩ := by
        obtain ⟨cs, ⟨h1, h2⟩, h3, -⟩ := hff 0 hpos
        have h4 := h3 0 _ (List.getElem?_eq_getElem (by omega))
        rw [Nat.zero_mul] at h4
        obtain ⟨b, o, s⟩ := a
        obtain rfl : s = none := by simpa [Addr.add] using World.cell?_spot h4
        exact ⟨b, o, rfl⟩
      refine ⟨b, o, rfl, fun i hil => ?_⟩
      rw [hlen] at hil
      obtain ⟨cs, ⟨h1, -⟩, h3, -⟩ := hff i hil
      refine ⟨cs, by simpa using h1, fun j u hu => ?_⟩
      have h4 := h3 j u hu
      rw [add_at, add_at] at h4
      exact h4
    · obtain ⟨i, hi', rfl⟩ := List.mem_map.1 hq
      have hi' := List.mem_range.1 hi'
      obtain ⟨cs, -, -, h5, h6⟩ := hff i hi'
      have := hD i hi'
      simp only [Rows.uptoBulk]
      omega
end
end Ho
end Go.Proofs.Ytkfmmdiflbnhgaa
