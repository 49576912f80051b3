/-
  Layer 13's statements: lists of records as arguments.
-/
import Derived.Test.YtdodmjcbjknneaaSpArg
import Derived.Test.YtdodmjcbjknneaaSpSame
namespace Go.Proofs.Ytdodmjcbjknneaa
set_option maxRecDepth 100000
open Go.ChangeShapes Go.WideShapes Go.ChangeAt Go.RowKit Go.Joins Go.Deep
open Ta (Row IsBytes bytes_cells bulk_len bulk_mem add_at)
namespace Sp
theorem cellsBs1 : Try.prog.cellsOf 22 = 1 := by kernel_rfl
section
variable {H : Type} {enc : TypeId × Value → H} {W : World} {base : Nat}
theorem bss_arg {v : Value} {d : DataW H} {p : List MemPlace} (hv : Value.okWide Try.prog W .any base 42 v) (h : DataW.Trod enc Try.prog W 0 (fun _ => true) true 42 v d p) :
    ∃ l, IsRecs W v l ∧ l.length ≤ Rows.uptoBulk d := by
  obtain ⟨a1, len, cap, rfl⟩ := okWide_slice Try.underlying42 hv
  obtain ⟨fuel, hf⟩ := h
  rcases open_slice Try.underlying42 hf with ⟨hcs, -⟩ | ⟨a, len', cap', m, n, D, Pl, hcs, -, hl, hm, hmm, hx, hi⟩
  · simp [Value.cells] at hcs
    obtain ⟨rfl, rfl, rfl⟩ := hcs
    exact ⟨[], ⟨none, 0, rfl, Nat.le_refl _, Nat.zero_le _, fun h => absurd rfl h⟩, Nat.zero_le _⟩
  · simp [Value.cells] at hcs
    obtain ⟨rfl, rfl, rfl⟩ := hcs
    simp only [if_true] at hmm
    subst hmm
    rw [cellsBs1] at hi
    obtain ⟨f, hff⟩ := choose_lt (α := List UInt8) (n := len) (p := fun i q => ∃ u, W.cell? ((a.add i).add 0) = some u ∧ IsBytes W u q) (fun i hil => by
      obtain ⟨cs', hc, ht⟩ := hi i (by omega)
      obtain ⟨_, hcl, hat⟩ := World.cells?_some hc
      obtain ⟨v, l, e, hb, -⟩ := bytes_cells ht
      subst e
      refine ⟨l, v, ?_, hb⟩
      have := hat 0 (by omega)
      rw [Nat.mul_one] at this
      simpa using this)
    have hlen : ((List.range len).map f).length = len := by rw [List.length_map, List.length_range]
    obtain ⟨rfl, -⟩ := Prod.mk.inj hx
    have hB := bulk_len ((List.range len).map D)
    refine ⟨(List.range len).map f, ⟨some a, m, by rw [hlen], by omega, hm, fun hne => ?_⟩, by rw [hlen]; simp only [Rows.uptoBulk]; simp at hB; omega⟩
    have hpos : 0 < len := by
      rcases Nat.eq_zero_or_pos len with h0 | h0
      · subst h0; exact absurd rfl hne
      · exact h0
    obtain ⟨b, o, rfl⟩ : ∃ b o, a = ⟨b, o, none⟩ := by
      obtain ⟨u, h3, -⟩ := hff 0 hpos
      obtain ⟨b, o, s⟩ := a
      obtain rfl : s = none := by simpa [Addr.add] using World.cell?_spot h3
      exact ⟨b, o, rfl⟩
    refine ⟨b, o, rfl, fun i hil => ?_⟩
    rw [hlen] at hil
    obtain ⟨u, h3, h4⟩ := hff i hil
    refine ⟨u, ?_, by simpa using h4⟩
    rw [add_at, add_at] at h3
    exact h3
end
end Sp
end Go.Proofs.Ytdodmjcbjknneaa
