/-
  A tuple as an argument: it is six texts.
-/
import Derived.Test.YtoeaapomjjclaaaDoorFrame
namespace Go.Proofs.YtoeaapomjjclaaaDoor.Tup
open Go.ChangeShapes Go.WideShapes Go.ChangeAt Go.RowKit Go.Joins

theorem cellsT : Tryd.prog.cellsOf 38 = 6 := by kernel_rfl
theorem cellsS : Tryd.prog.cellsOf 36 = 3 := by kernel_rfl
theorem cellsG : Tryd.prog.cellsOf 9 = 1 := by kernel_rfl
theorem array6 (T : Array Value) (h : T.size = 6) : ∃ v0 v1 v2 v3 v4 v5 : Value, T = #[v0, v1, v2, v3, v4, v5] := by
  cases T with
  | mk l =>
    match l, h with
    | [a, b, c, d, e, f], _ => exact ⟨a, b, c, d, e, f, rfl⟩

section
variable {H : Type} {enc : TypeId × Value → H} {w W : World} {base : Nat} {spare : Nat → Bool} {held : Bool}
theorem text_of {n : Nat} {v : Value} {y : DataW H × List MemPlace} (h : DataW.trod enc Tryd.prog w base spare held n 9 [v] = some y) : ∃ s : ByteArray, v = .string s ∧ y = (.lit (.string s.data.toList), []) ∧ s.size ≤ maxLen := by
  obtain ⟨s, e, hy, hs⟩ := DataW.trod_string Tryd.underlying9 h
  simp at e
  exact ⟨s, e, hy, hs⟩
theorem open_tuple {r : Reach} {b0 : Nat} {v : Value} {d : DataW H} {p : List MemPlace} (hv : Value.okWide Tryd.prog W r b0 38 v) (h : DataW.Trod enc Tryd.prog w base spare held 38 v d p) :
    ∃ t i r' a b c : ByteArray, v = .agg #[.string t, .string i, .string r', .string a, .string b, .string c] ∧
      d = .agg [.lit (.string t.data.toList), .lit (.string i.data.toList), .lit (.string r'.data.toList), .agg [.lit (.string a.data.toList), .lit (.string b.data.toList), .lit (.string c.data.toList)]] ∧ p = [] ∧
      (t.size ≤ maxLen ∧ i.size ≤ maxLen ∧ r'.size ≤ maxLen ∧ a.size ≤ maxLen ∧ b.size ≤ maxLen ∧ c.size ≤ maxLen) := by
  obtain ⟨cs, rfl, hsz⟩ := okWide_struct Tryd.underlying38 hv
  obtain ⟨c0, c1, c2, c3, c4, c5, rfl⟩ := array6 cs (hsz.trans cellsT)
  obtain ⟨fuel, hf⟩ := h
  obtain ⟨y0, y1, y2, y3, n, hx, _, h0, h1, h2, h3⟩ := trod_struct4 Tryd.underlying38 hf
  simp only [Value.cells, cellsG, cellsS, List.drop_zero, List.drop_succ_cons, List.take_succ_cons, List.take_zero] at h0 h1 h2 h3
  obtain ⟨z0, z1, z2, m, hz, _, g0, g1, g2⟩ := Go.Deep.trod_struct3 Tryd.underlying36 h3
  simp only [cellsG, List.drop_zero, List.drop_succ_cons, List.take_succ_cons, List.take_zero] at g0 g1 g2
  obtain ⟨s0, rfl, rfl, u0⟩ := text_of h0
  obtain ⟨s1, rfl, rfl, u1⟩ := text_of h1
  obtain ⟨s2, rfl, rfl, u2⟩ := text_of h2
  obtain ⟨s3, rfl, rfl, u3⟩ := text_of g0
  obtain ⟨s4, rfl, rfl, u4⟩ := text_of g1
  obtain ⟨s5, rfl, rfl, u5⟩ := text_of g2
  subst hz
  obtain ⟨rfl, rfl⟩ := Prod.mk.inj hx
  exact ⟨s0, s1, s2, s3, s4, s5, rfl, rfl, rfl, u0, u1, u2, u3, u4, u5⟩
end
end Go.Proofs.YtoeaapomjjclaaaDoor.Tup
