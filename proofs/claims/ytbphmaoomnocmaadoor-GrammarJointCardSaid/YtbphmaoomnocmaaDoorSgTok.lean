/-
  Layer 6 (sigil): a token of a list.
-/
import Derived.Test.YtbphmaoomnocmaaDoorSgE
namespace Go.Proofs.YtbphmaoomnocmaaDoor
open Go.RowKit
namespace Sg
open Tr (IsElem own_below own_slice own_open)

/-! ### a token of a list -/
/-- A token's cells. -/
def TokAt (x : World) (g o : Nat) (t : Tok) : Prop := x.cell? ⟨g, o, none⟩ = some (.int .i64 t.kind) ∧ x.cell? ⟨g, o + 1, none⟩ = some (.string (txt t.text)) ∧ x.cell? ⟨g, o + 2, none⟩ = some (.int .i64 (t.at'.1 : Nat)) ∧ x.cell? ⟨g, o + 3, none⟩ = some (.int .i64 (t.at'.2 : Nat))
theorem TokAt.on {x y : World} {g o : Nat} {t : Tok} (h : TokAt x g o t) (hg : g < x.heap.size) (hb : Below x.heap.size x y) : TokAt y g o t :=
  ⟨(hb.cell (p := ⟨g, o, none⟩) hg).trans h.1, (hb.cell (p := ⟨g, o + 1, none⟩) hg).trans h.2.1, (hb.cell (p := ⟨g, o + 2, none⟩) hg).trans h.2.2.1, (hb.cell (p := ⟨g, o + 3, none⟩) hg).trans h.2.2.2⟩
theorem toksC_at : ∀ (l : List Tok) {j : Nat} (h : j < l.length), (toksC l)[j * 4]? = some (.int .i64 l[j].kind) ∧ (toksC l)[j * 4 + 1]? = some (.string (txt l[j].text)) ∧ (toksC l)[j * 4 + 2]? = some (.int .i64 (l[j].at'.1 : Nat)) ∧ (toksC l)[j * 4 + 3]? = some (.int .i64 (l[j].at'.2 : Nat))
  | r :: l, 0, _ => ⟨rfl, rfl, rfl, rfl⟩
  | r :: l, j + 1, h => by
    have ih := toksC_at l (j := j) (by simpa using h)
    have e : ∀ c, (toksC (r :: l))[(j + 1) * 4 + c]? = (toksC l)[j * 4 + c]? := fun c => by
      rw [show (j + 1) * 4 + c = (j * 4 + c) + 4 by omega]
      rfl
    have e0 := e 0
    rw [Nat.add_zero, Nat.add_zero] at e0
    exact ⟨e0.trans ih.1, (e 1).trans ih.2.1, (e 2).trans ih.2.2.1, (e 3).trans ih.2.2.2⟩
theorem elemT : Tryd.prog.underlying 88 = some (.slice (Tryd.prog.elem 88)) := by kernel_rfl
theorem sizeT : ∀ w, (sizeOf (Tryd.prog.elem 88)).run Tryd.prog w = .ok 4 w := fun w => by kernel_rfl
theorem index_tok {g n cap : Nat} {j : Nat} (hj : j < n) (W : World) : (Instr.indexAt 88 (.slice (some ⟨g, 0, none⟩) n cap) (.int .i64 (j : Int))).run Tryd.prog W = .ok (.pointer (some ⟨g, j * 4, none⟩)) W := by
  rw [run_indexAt_slice W _ _ _ _ _ _ elemT, if_pos ⟨by omega, by omega⟩, sizeT]
  have e : ((j : Int)).toNat = j := by omega
  simp only [Result.andThen_ok, e, Addr.add_lit, Nat.zero_add]
/-- A list of tokens that isn't empty: where it lies. -/
theorem toks_open {B : Nat} {x : World} {v : Value} {l : List Tok} (h : x.ownsRow B 128 4 v l.length (toksC l)) (hl : l ≠ []) :
    ∃ g cap, v = .slice (some ⟨g, 0, none⟩) l.length cap ∧ B ≤ g ∧ g < x.heap.size ∧ ∀ j (h : j < l.length), TokAt x g (j * 4) l[j] := by
  have hp := List.length_pos_iff.2 hl
  obtain ⟨n, hn⟩ : ∃ n, l.length = n + 1 := ⟨l.length - 1, by omega⟩
  rw [hn] at h
  obtain ⟨g, cap, rfl, hB, hg, -, hc⟩ := own_open h
  refine ⟨g, cap, by rw [hn], hB, hg, fun j hj => ?_⟩
  obtain ⟨c0, c1, c2, c3⟩ := toksC_at l hj
  exact ⟨hc _ _ c0, hc _ _ c1, hc _ _ c2, hc _ _ c3⟩

/-! ### texts of bytes below 128 -/
theorem dec_low {b : UInt8} {l : List UInt8} (h : b.toNat < 128) : Gly.dec (b :: l) = (b.toNat, 1) := by
  rw [Gly.dec_def, Lib.decodeN, if_pos (by simpa [Gly.byte] using h)]
  rfl
theorem runes_low : ∀ (l : List UInt8), (∀ b ∈ l, b.toNat < 128) → Gly.runes l = some (l.map UInt8.toNat)
  | [], _ => Gly.runes_nil
  | b :: l, h => by
    have hb := h b (by simp)
    have hd := dec_low (l := l) hb
    have hbad : Gly.bad (b :: l) = false := by
      rw [Gly.bad, hd]; simp; omega
    rw [Gly.runes_step (by simp) hbad, hd]
    simp only [List.drop_succ_cons, List.drop_zero]
    rw [runes_low l (fun x hx => h x (by simp [hx]))]
    rfl

end Sg
end Go.Proofs.YtbphmaoomnocmaaDoor
