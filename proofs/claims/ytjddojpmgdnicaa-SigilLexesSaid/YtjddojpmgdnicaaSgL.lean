/-
  Layer 6 (sigil): a token of a list; the document's example, which each statement asks first.
-/
import Derived.Test.YtjddojpmgdnicaaSgE
namespace Go.Proofs.Ytjddojpmgdnicaa
open Go.RowKit
namespace Sg
open Tr (IsElem own_below own_slice own_open)

/-! ### a token of a list -/
/-- A token's cells. -/
def TokAt (x : World) (g o : Nat) (t : Tok) : Prop := x.cell? ⟨g, o, none⟩ = some (.int .i64 t.kind) ∧ x.cell? ⟨g, o + 1, none⟩ = some (.string (txt t.text)) ∧ x.cell? ⟨g, o + 2, none⟩ = some (.int .i64 (t.at'.1 : Nat)) ∧ x.cell? ⟨g, o + 3, none⟩ = some (.int .i64 (t.at'.2 : Nat))
theorem TokAt.on {x y : World} {g o : Nat} {t : Tok} (h : TokAt x g o t) (hg : g < x.heap.size) (hb : Below x.heap.size x y) : TokAt y g o t :=
  ⟨(hb.cell (p := ⟨g, o, none⟩) hg).trans h.1, (hb.cell (p := ⟨g, o + 1, none⟩) hg).trans h.2.1, (hb.cell (p := ⟨g, o + 2, none⟩) hg).trans h.2.2.1, (hb.cell (p := ⟨g, o + 3, none⟩) hg).trans h.2.2.2⟩
theorem toksC_at : ∀ (l : List Tok) {j : Nat} (h : j < l.length), (toksC l)[j * 4]? = some (.int .i64 l[j].kind) ∧ (toksC l)[j * 4 + 1]? = some (.string (txt l[j].text)) ∧ (toksC l)[j * 4 + 2]? = some (.int .i64 (l[j].at'.1 : Nat)) ∧ (toksC l)[j * 4 + 3]? = some (.int .i64 (l[j].at'.2 : Nat))
  | r :: l, 0, _ => ⟨rfl, rfl, rfl, rfl⟩
  | r :: l, j + 1, h => by
    have ih := toksC_at l (j := j) (by simpa using h)
    have e : ∀ c, (toksC (r :: l))[(j + 1) * 4 + c]? = (toksC l)[j * 4 + c]? := fun c => by
      rw [show (j + 1) * 4 + c = (j * 4 + c) + 4 by omega]
      rfl
    have e0 := e 0
    rw [Nat.add_zero, Nat.add_zero] at e0
    exact ⟨e0.trans ih.1, (e 1).trans ih.2.1, (e 2).trans ih.2.2.1, (e 3).trans ih.2.2.2⟩
theorem elemT : Try.prog.underlying 23 = some (.slice (Try.prog.elem 23)) := by kernel_rfl
theorem sizeT : ∀ w, (sizeOf (Try.prog.elem 23)).run Try.prog w = .ok 4 w := fun w => by kernel_rfl
theorem index_tok {g n cap : Nat} {j : Nat} (hj : j < n) (W : World) : (Instr.indexAt 23 (.slice (some ⟨g, 0, none⟩) n cap) (.int .i64 (j : Int))).run Try.prog W = .ok (.pointer (some ⟨g, j * 4, none⟩)) W := by
  rw [run_indexAt_slice W _ _ _ _ _ _ elemT, if_pos ⟨by omega, by omega⟩, sizeT]
  have e : ((j : Int)).toNat = j := by omega
  simp only [Result.andThen_ok, e, Addr.add_lit, Nat.zero_add]
/-- A list of tokens that isn't empty: where it lies. -/
theorem toks_open {B : Nat} {x : World} {v : Value} {l : List Tok} (h : x.ownsRow B 33 4 v l.length (toksC l)) (hl : l ≠ []) :
    ∃ g cap, v = .slice (some ⟨g, 0, none⟩) l.length cap ∧ B ≤ g ∧ g < x.heap.size ∧ ∀ j (h : j < l.length), TokAt x g (j * 4) l[j] := by
  have hp := List.length_pos_iff.2 hl
  obtain ⟨n, hn⟩ : ∃ n, l.length = n + 1 := ⟨l.length - 1, by omega⟩
  rw [hn] at h
  obtain ⟨g, cap, rfl, hB, hg, -, hc⟩ := own_open h
  refine ⟨g, cap, by rw [hn], hB, hg, fun j hj => ?_⟩
  obtain ⟨c0, c1, c2, c3⟩ := toksC_at l hj
  exact ⟨hc _ _ c0, hc _ _ c1, hc _ _ c2, hc _ _ c3⟩

/-! ### texts of bytes below 128 -/
theorem dec_low {b : UInt8} {l : List UInt8} (h : b.toNat < 128) : Gly.dec (b :: l) = (b.toNat, 1) := by
  rw [Gly.dec_def, Lib.decodeN, if_pos (by simpa [Gly.byte] using h)]
  rfl
theorem runes_low : ∀ (l : List UInt8), (∀ b ∈ l, b.toNat < 128) → Gly.runes l = some (l.map UInt8.toNat)
  | [], _ => Gly.runes_nil
  | b :: l, h => by
    have hb := h b (by simp)
    have hd := dec_low (l := l) hb
    have hbad : Gly.bad (b :: l) = false := by
      rw [Gly.bad, hd]; simp; omega
    rw [Gly.runes_step (by simp) hbad, hd]
    simp only [List.drop_succ_cons, List.drop_zero]
    rw [runes_low l (fun x hx => h x (by simp [hx]))]
    rfl

/-! ### the document's example -/
def exQ : List Nat := [114, 101, 108, 32, 97, 45, 62, 98, 32, 47, 47, 32, 120]
def exS : ByteArray := ⟨#[114, 101, 108, 32, 97, 45, 62, 98, 32, 47, 47, 32, 120]⟩
theorem ex_runes : Gly.runes exS.data.toList = some exQ := runes_low _ (by decide)
def exToks : List Tok := [⟨3, [114, 101, 108], (1, 1)⟩, ⟨1, [97], (1, 5)⟩, ⟨5, [45, 62], (1, 6)⟩, ⟨1, [98], (1, 8)⟩]
theorem ex_lex : lex (1, 1) exQ = (exToks, (1, 14), true) := by
  have h6 : lex (1, 10) [47, 47, 32, 120] = ([], (1, 14), true) := by
    rw [lex_remark (p := (1, 10)) (t := [47, 32, 120]) rfl]
    exact lex_nil (1, 14)
  have h5 : lex (1, 8) [98, 32, 47, 47, 32, 120] = ([⟨1, [98], (1, 8)⟩], (1, 14), true) := by
    have h := lex_tok (p := (1, 8)) (q := [98, 32, 47, 47, 32, 120]) (by simp) (by decide) (by decide)
    have h2 : lex (1, 9) [32, 47, 47, 32, 120] = ([], (1, 14), true) := (lex_blank (p := (1, 9)) (r := 32) (t := [47, 47, 32, 120]) (by decide)).trans h6
    have h3 : lex (1, 8) [98, 32, 47, 47, 32, 120] = (⟨1, [98], (1, 8)⟩ :: (lex (1, 9) [32, 47, 47, 32, 120]).1, (lex (1, 9) [32, 47, 47, 32, 120]).2) := h
    rw [h3, h2]
  have h4 : lex (1, 6) [45, 62, 98, 32, 47, 47, 32, 120] = ([⟨5, [45, 62], (1, 6)⟩, ⟨1, [98], (1, 8)⟩], (1, 14), true) := by
    have h := lex_tok (p := (1, 6)) (q := [45, 62, 98, 32, 47, 47, 32, 120]) (by simp) (by decide) (by decide)
    have h3 : lex (1, 6) [45, 62, 98, 32, 47, 47, 32, 120] = (⟨5, [45, 62], (1, 6)⟩ :: (lex (1, 8) [98, 32, 47, 47, 32, 120]).1, (lex (1, 8) [98, 32, 47, 47, 32, 120]).2) := h
    rw [h3, h5]
  have h3 : lex (1, 5) [97, 45, 62, 98, 32, 47, 47, 32, 120] = ([⟨1, [97], (1, 5)⟩, ⟨5, [45, 62], (1, 6)⟩, ⟨1, [98], (1, 8)⟩], (1, 14), true) := by
    have h := lex_tok (p := (1, 5)) (q := [97, 45, 62, 98, 32, 47, 47, 32, 120]) (by simp) (by decide) (by decide)
    have h3 : lex (1, 5) [97, 45, 62, 98, 32, 47, 47, 32, 120] = (⟨1, [97], (1, 5)⟩ :: (lex (1, 6) [45, 62, 98, 32, 47, 47, 32, 120]).1, (lex (1, 6) [45, 62, 98, 32, 47, 47, 32, 120]).2) := h
    rw [h3, h4]
  have h2 : lex (1, 4) [32, 97, 45, 62, 98, 32, 47, 47, 32, 120] = ([⟨1, [97], (1, 5)⟩, ⟨5, [45, 62], (1, 6)⟩, ⟨1, [98], (1, 8)⟩], (1, 14), true) := (lex_blank (p := (1, 4)) (r := 32) (by decide)).trans h3
  have h := lex_tok (p := (1, 1)) (q := exQ) (by simp [exQ]) (by decide) (by decide)
  have h1 : lex (1, 1) exQ = (⟨3, [114, 101, 108], (1, 1)⟩ :: (lex (1, 4) [32, 97, 45, 62, 98, 32, 47, 47, 32, 120]).1, (lex (1, 4) [32, 97, 45, 62, 98, 32, 47, 47, 32, 120]).2) := h
  rw [h1, h2]
  rfl
theorem ex_ans : ans (Gly.runes exS.data.toList) = (0, (1, 14), exToks) := by
  rw [ex_runes, ans_ok (by decide) (by rw [ex_lex]), ex_lex]

set_option maxHeartbeats 4000000 in
set_option maxRecDepth 100000 in
theorem awake_any (w : World) : Calls Try.prog 8 #[] w fun e w' => e = .returned (.bool true) ∧ Below w.heap.size w w' := by
  have hl := fun W => lex_any exS W (by decide)
  rw [ex_ans] at hl
  have HL := Lib.hid hl
  clear hl
  go_enter Try.func8, Try.ntmps8
  go_wp2_with fail
  refine (HL.out _).mono ?_
  rintro e w1 ⟨v, rfl, ho, b1⟩
  obtain ⟨g, cap, rfl, hB, hg, hT⟩ := toks_open ho (by simp [exToks])
  have a0 : w1.cell? ⟨g, 0, none⟩ = some (.int .i64 3) := (hT 0 (by decide)).1
  have a2 : w1.cell? ⟨g, 8, none⟩ = some (.int .i64 5) := (hT 2 (by decide)).1
  have a3 : w1.cell? ⟨g, 14, none⟩ = some (.int .i64 1) := (hT 3 (by decide)).2.2.1
  have a4 : w1.cell? ⟨g, 15, none⟩ = some (.int .i64 8) := (hT 3 (by decide)).2.2.2
  have hB1 := Lib.hid b1
  have hl4 : exToks.length = 4 := rfl
  rw [hl4]
  clear hT ho b1 hl4
  unfold plV
  go_wp2_with fail
  go_ret
  exact ⟨rfl, hB1.out.alloc hB1.out.size _⟩
end Sg
end Go.Proofs.Ytjddojpmgdnicaa
