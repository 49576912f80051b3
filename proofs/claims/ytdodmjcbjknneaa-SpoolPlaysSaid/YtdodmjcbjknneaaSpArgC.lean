/-
  Layer 13's statements: rings, and pairs of numbers, as arguments.
-/
import Derived.Test.YtdodmjcbjknneaaSpArg
namespace Go.Proofs.Ytdodmjcbjknneaa
set_option maxRecDepth 100000
open Go.ChangeShapes Go.WideShapes Go.ChangeAt Go.RowKit Go.Joins Go.Deep
namespace Sp
theorem cellsRg : Try.prog.cellsOf 28 = 2 := by kernel_rfl
theorem cellsPair : Try.prog.cellsOf 29 = 2 := by kernel_rfl
theorem cellsInt1 : Try.prog.cellsOf 3 = 1 := by kernel_rfl
section
variable {H : Type} {enc : TypeId × Value → H} {W : World} {base : Nat}
theorem ring_arg {v : Value} {d : DataW H} {p : List MemPlace} (hv : Value.okWide Try.prog W .any base 28 v) (h : DataW.Trod enc Try.prog W 0 (fun _ => true) true 28 v d p) :
    ∃ f c : Int, v = .agg #[.int .i64 f, .int .i64 c] ∧ (Lit.int .i64 f).wf = true ∧ (Lit.int .i64 c).wf = true := by
  obtain ⟨v0, v1, y0, y1, n, rfl, -, -, h0, h1⟩ := open_agg2 Try.underlying28 (by kernel_rfl) cellsRg hv h
  obtain ⟨f, e0, -, w0⟩ := DataW.trod_int Try.underlying3 h0
  obtain ⟨c, e1, -, w1⟩ := DataW.trod_int Try.underlying3 h1
  obtain rfl : v0 = _ := by simpa using e0
  obtain rfl : v1 = _ := by simpa using e1
  exact ⟨f, c, rfl, w0, w1⟩
theorem trod_array2 {P : Program} {w : World} {b : Nat} {spare : Nat → Bool} {held : Bool} {t e : TypeId} {fuel : Nat} {c0 c1 : Value} {x : DataW H × List MemPlace} (ht : P.underlying t = some (.array 2 e)) (hce : P.cellsOf e = 1)
    (h : DataW.trod enc P w b spare held fuel t [c0, c1] = some x) :
    ∃ y0 y1 n, x = (.agg [y0.1, y1.1], y0.2 ++ y1.2) ∧ DataW.trod enc P w b spare held n e [c0] = some y0 ∧ DataW.trod enc P w b spare held n e [c1] = some y1 := by
  cases fuel with
  | zero => simp [DataW.trod] at h
  | succ n =>
    unfold DataW.trod at h
    rw [ht] at h
    have r2 : List.range 2 = [0, 1] := rfl
    simp [r2, hce] at h
    obtain ⟨_, h⟩ := h
    cases h0 : DataW.trod enc P w b spare held n e [c0] with
    | none => simp [h0] at h
    | some y0 =>
      cases h1 : DataW.trod enc P w b spare held n e [c1] with
      | none => simp [h0, h1] at h
      | some y1 =>
        simp [h0, h1] at h
        exact ⟨y0, y1, n, h.symm, h0, h1⟩
theorem pair_arg {v : Value} {d : DataW H} {p : List MemPlace} (hv : Value.okWide Try.prog W .any base 29 v) (h : DataW.Trod enc Try.prog W 0 (fun _ => true) true 29 v d p) :
    ∃ f c : Int, v = .agg #[.int .i64 f, .int .i64 c] ∧ (Lit.int .i64 f).wf = true ∧ (Lit.int .i64 c).wf = true := by
  have hu := Try.underlying29
  simp only [Value.okWide, hu] at hv
  obtain ⟨cs, rfl, hsz, -⟩ := hv
  obtain ⟨c0, c1, rfl⟩ := array2 (hsz.trans cellsPair)
  obtain ⟨fuel, hf⟩ := h
  obtain ⟨y0, y1, n, -, h0, h1⟩ := trod_array2 hu cellsInt1 (by simpa [Value.cells] using hf)
  obtain ⟨f, e0, -, w0⟩ := DataW.trod_int Try.underlying3 h0
  obtain ⟨c, e1, -, w1⟩ := DataW.trod_int Try.underlying3 h1
  obtain rfl : c0 = _ := by simpa using e0
  obtain rfl : c1 = _ := by simpa using e1
  exact ⟨f, c, rfl, w0, w1⟩
end
end Sp
end Go.Proofs.Ytdodmjcbjknneaa
