/-
  Layer 6 (sigil): package sigil's End.
-/
import Derived.Test.YtjddojpmgdnicaaSgC
import Derived.Test.YtjddojpmgdnicaaHeld
import Derived.Test.YtjddojpmgdnicaaClone
namespace Go.Proofs.Ytjddojpmgdnicaa
open Go.RowKit
namespace Sg
open Gl (drop_ne width drop_next drop_end)

/-- All that a range tells, stray bytes too. -/
def told (l : List UInt8) : List Nat :=
  if _h : l = [] then [] else (Gly.dec l).1 :: told (l.drop (Gly.dec l).2)
termination_by l.length
decreasing_by exact Gly.drop_lt (by assumption)
theorem told_nil : told [] = [] := by rw [told]; rfl
theorem told_step {l : List UInt8} (h : l ≠ []) : told l = (Gly.dec l).1 :: told (l.drop (Gly.dec l).2) := by rw [told, dif_neg h]
theorem told_runes : ∀ (k : Nat) (l : List UInt8) (q : List Nat), l.length ≤ k → Gly.runes l = some q → told l = q
  | k, l, q, hk, hq => by
    by_cases h : l = []
    · subst h; rw [Gly.runes_nil] at hq; cases hq; exact told_nil
    · have hl := Gly.drop_lt h
      obtain ⟨k, rfl⟩ : ∃ j, k = j + 1 := ⟨k - 1, by omega⟩
      rw [Gly.runes_step h (Gly.runes_good hq h)] at hq
      cases hu : Gly.runes (l.drop (Gly.dec l).2) with
      | none => rw [hu] at hq; cases hq
      | some u =>
        rw [hu] at hq; cases hq
        rw [told_step h, told_runes k _ u (by omega) hu]
theorem told_len : ∀ (k : Nat) (l : List UInt8), l.length ≤ k → (told l).length ≤ l.length
  | k, l, hk => by
    by_cases h : l = []
    · subst h; rw [told_nil]; simp
    · have hl := Gly.drop_lt h
      obtain ⟨k, rfl⟩ : ∃ j, k = j + 1 := ⟨k - 1, by omega⟩
      have := told_len k (l.drop (Gly.dec l).2) (by omega)
      rw [told_step h, List.length_cons]; omega

/-- A place in a box. -/
def PlB (R : Nat) (p : Nat × Nat) (x : World) : Prop := x.heap[R]? = some (.cells #[.int .i64 (p.1 : Nat), .int .i64 (p.2 : Nat)] 25 (0, 0))
theorem PlB.lt {R : Nat} {p : Nat × Nat} {x : World} (h : PlB R p x) : R < x.heap.size := (Array.getElem?_eq_some_iff.1 h).1
theorem PlB.cells {R : Nat} {p : Nat × Nat} {x : World} (h : PlB R p x) : x.cell? ⟨R, 0, none⟩ = some (.int .i64 (p.1 : Nat)) ∧ x.cell? ⟨R, 1, none⟩ = some (.int .i64 (p.2 : Nat)) :=
  ⟨by rw [Lib.cell_of_heap h]; rfl, by rw [Lib.cell_of_heap h]; rfl⟩
theorem PlB.free {R : Nat} {p : Nat × Nat} {x : World} (h : PlB R p x) : x.frozen? ⟨R, 0, none⟩ = false ∧ x.frozen? ⟨R, 1, none⟩ = false := by
  constructor <;> · unfold World.frozen?; rw [h]; rfl
theorem PlB.on {R : Nat} {p : Nat × Nat} {x y : World} (h : PlB R p x) (hb : Below x.heap.size x y) : PlB R p y := (hb.block R h.lt).trans h

theorem PlB.of_iter {R k : Nat} {p : Nat × Nat} {x : World} (h : PlB R p x) (hk : R ≠ k) (s : ByteArray) (pos : Nat) : PlB R p (x.iterAt k s pos) := (Lib.iterAt_other x k R s pos hk).trans h
theorem PlB.new (w : World) (p : Nat × Nat) : PlB w.heap.size p (w.alloc (.cells #[.int .i64 (p.1 : Nat), .int .i64 (p.2 : Nat)] 25)) := heap_alloc_new w _
/-- Another place in the same box. -/
theorem PlB.put {R : Nat} {p : Nat × Nat} {x : World} (h : PlB R p x) (a b : Nat) : PlB R (a, b) ((x.setCell ⟨R, 0, none⟩ (.int .i64 (a : Nat))).setCell ⟨R, 1, none⟩ (.int .i64 (b : Nat))) := by
  have h1 := Lib.heap_setCell_same (i := 0) h (.int .i64 (a : Nat))
  have h2 := Lib.heap_setCell_same (i := 1) h1 (.int .i64 (b : Nat))
  exact h2
theorem put_cells {R : Nat} {p : Nat × Nat} {x : World} (h : PlB R p x) (a b : Nat) :
    (x.setCell ⟨R, 0, none⟩ (.int .i64 (a : Nat))).cell? ⟨R, 0, none⟩ = some (.int .i64 (a : Nat)) ∧ ((x.setCell ⟨R, 0, none⟩ (.int .i64 (a : Nat))).setCell ⟨R, 1, none⟩ (.int .i64 (b : Nat))).cell? ⟨R, 1, none⟩ = some (.int .i64 (b : Nat)) := by
  have h1 := Lib.heap_setCell_same (i := 0) h (.int .i64 (a : Nat))
  exact ⟨by rw [Lib.cell_of_heap h1]; rfl, (h.put a b).cells.2⟩
/-- A place is stored in a box. -/
def setPl (x : World) (P : Nat) (p : Nat × Nat) : World := (x.setCell ⟨P, 0, none⟩ (.int .i64 (p.1 : Nat))).setCell ⟨P, 1, none⟩ (.int .i64 (p.2 : Nat))
theorem setPl_other (x : World) (P : Nat) (p : Nat × Nat) {k : Nat} (hk : k ≠ P) : (setPl x P p).heap[k]? = x.heap[k]? :=
  (Below.heap_setCell _ _ _ k hk).trans (Below.heap_setCell _ _ _ k hk)
theorem setPl_below {w x : World} {B P : Nat} (p : Nat × Nat) (h : Below B w x) (hB : B ≤ P) : Below B w (setPl x P p) := (h.setCell (p := ⟨P, 0, none⟩) hB _).setCell (p := ⟨P, 1, none⟩) hB _
theorem PlB.set {P : Nat} {p : Nat × Nat} {x : World} (h : PlB P p x) (q : Nat × Nat) : PlB P q (setPl x P q) := h.put q.1 q.2
theorem setPl_size (x : World) (P : Nat) (p : Nat × Nat) : (setPl x P p).heap.size = x.heap.size := by simp [setPl, World.setCell]

set_option maxHeartbeats 4000000 in
set_option maxRecDepth 100000 in
theorem end_any (s : ByteArray) (w : World) (hs : s.size ≤ 4000000) :
    Calls Try.prog 13 #[.string s] w fun e w' => e = .returned (plV (behinds (1, 1) (told s.data.toList))) ∧ Below w.heap.size w w' := by
  have HB := Lib.hid behind_any
  go_enter Try.func13, Try.ntmps13
  go_wp2_with (go_at_call 15; refine (front_any _).mono ?_; rintro e w1 ⟨rfl, hb1⟩; unfold plV)
  have hz1 : w.heap.size < w1.heap.size := by have := hb1.size; simp at this; omega
  have hbw1 : Below w.heap.size w w1 := ((Below.refl _ _).alloc (Nat.le_refl _) _).trans (hb1.mono (by simp))
  have hR : PlB w.heap.size (0, 0) w1 := (PlB.new w (0, 0)).on hb1
  have hst : ((w1.alloc (Obj.cells #[.int .i64 ((1 : Nat) : Int), .int .i64 ((1 : Nat) : Int)] 25)).iter s 0).heap[w1.heap.size + 1]? = some (.stringIter s 0) := by
    have := World.iter_heap (w1.alloc (Obj.cells #[.int .i64 ((1 : Nat) : Int), .int .i64 ((1 : Nat) : Int)] 25)) s 0
    simpa using this
  have hal : Below w1.heap.size w1 (w1.alloc (Obj.cells #[.int .i64 ((1 : Nat) : Int), .int .i64 ((1 : Nat) : Int)] 25)) := (Below.refl _ _).alloc (Nat.le_refl _) _
  have hal2 : Below (w1.heap.size + 1) (w1.alloc (Obj.cells #[.int .i64 ((1 : Nat) : Int), .int .i64 ((1 : Nat) : Int)] 25)) ((w1.alloc (Obj.cells #[.int .i64 ((1 : Nat) : Int), .int .i64 ((1 : Nat) : Int)] 25)).iter s 0) := (Below.refl _ _).alloc (by simp) _
  have hP : PlB w1.heap.size (1, 1) ((w1.alloc (Obj.cells #[.int .i64 ((1 : Nat) : Int), .int .i64 ((1 : Nat) : Int)] 25)).iter s 0) := (hal2.block w1.heap.size (by omega)).trans (PlB.new w1 (1, 1))
  have hR2 := hR.on (hal.trans (hal2.mono (by omega)))
  have hb2 := hbw1.trans ((hal.trans (hal2.mono (by omega))).mono hbw1.size)
  have H0 := Lib.hid (And.intro hst (And.intro hP (And.intro hR2 hb2)))
  clear hst hal hal2 hP hR2 hb2 hR hbw1 hb1
  generalize w1.heap.size = P at *
  go_loopw [] (fun wr => ∃ (pos : Nat) (p : Nat × Nat), Hid (wr.heap[P + 1]? = some (.stringIter s pos) ∧ PlB P p wr ∧ PlB w.heap.size (0, 0) wr ∧ Below w.heap.size w wr ∧ behinds p (told (s.data.toList.drop pos)) = behinds (1, 1) (told s.data.toList)) ∧ p.1 ≤ pos + 1 ∧ p.2 ≤ pos + 1 ∧ pos ≤ s.size) (fun wr => s.size - wr.iterPos (P + 1))
  case atStart => exact ⟨0, (1, 1), Lib.hid ⟨H0.out.1, H0.out.2.1, H0.out.2.2.1, H0.out.2.2.2, by simp⟩, by simp, by simp, by omega⟩
  case round =>
    obtain ⟨pos, p, HR, hp1, hp2, hps⟩ := hrel
    obtain ⟨hit, hP, hR, hbw, hbe⟩ := HR.out
    have hpos0 := iterPos_of hit
    by_cases hp : pos < s.size
    · have hnx : ∀ ty, (Instr.next (.pointer (some ⟨P + 1, 0, none⟩)) true ty).run Try.prog wr = _ := fun ty => Lib.run_next_any_at wr (P + 1) s pos ty hit hp
      have hwd := width s pos hp
      have hmx := Gly.dec_max _ (drop_ne hp)
      rw [← Gly.dec_at] at hmx
      rw [told_step (drop_ne hp), drop_next, ← Gly.dec_at, behinds_cons] at hbe
      have hit2 := Lib.iterAt_heap wr (P + 1) s pos (pos + (Utf8.decode s pos).2) hit
      have hbw2 := Lib.below_iterAt hbw (k := P + 1) (by omega) s (pos + (Utf8.decode s pos).2)
      have hP2 := hP.of_iter (k := P + 1) (by omega) s (pos + (Utf8.decode s pos).2)
      have hR2 := hR.of_iter (k := P + 1) (by omega) s (pos + (Utf8.decode s pos).2)
      obtain ⟨W1, hW1⟩ : ∃ W1, W1 = wr.iterAt (P + 1) s (pos + (Utf8.decode s pos).2) := ⟨_, rfl⟩
      rw [← hW1] at hnx hit2 hbw2 hP2 hR2
      obtain ⟨c0, c1⟩ := hP2.cells
      have HX := Lib.hid (And.intro hit2 (And.intro hP2 (And.intro hR2 (And.intro hbw2 hbe))))
      have hlt := behind_le p (Utf8.decode s pos).1
      clear hW1 hit hbw hbw2 hit2 hP2 hR2 hP hR hbe HR
      generalize hr : (Utf8.decode s pos).1 = r at *
      go_wp2_with fail
      refine (HB.out p r (by omega) (by omega) hmx W1).mono ?_
      rintro e w2 ⟨rfl, hb2⟩
      have hP2 := HX.out.2.1.on hb2
      obtain ⟨f0, f1⟩ := hP2.free
      obtain ⟨d0, d1⟩ := hP2.cells
      have hR2 := HX.out.2.2.1.on hb2
      have hit2 := (hb2.block (P + 1) (Array.getElem?_eq_some_iff.1 HX.out.1).1).trans HX.out.1
      have hbw2 := HX.out.2.2.2.1.trans (hb2.mono HX.out.2.2.2.1.size)
      have hPw : w.heap.size < P := hz1
      have HY : Hid ((setPl w2 P (behind p r)).heap[P + 1]? = some (.stringIter s (pos + (Utf8.decode s pos).2)) ∧ PlB P (behind p r) (setPl w2 P (behind p r)) ∧ PlB w.heap.size (0, 0) (setPl w2 P (behind p r)) ∧ Below w.heap.size w (setPl w2 P (behind p r)) ∧ behinds (behind p r) (told (s.data.toList.drop (pos + (Utf8.decode s pos).2))) = behinds (1, 1) (told s.data.toList)) :=
        Lib.hid ⟨(setPl_other w2 P _ (by omega)).trans hit2, hP2.set _, (setPl_other w2 P _ (by omega)).trans hR2, setPl_below _ hbw2 (by omega), HX.out.2.2.2.2⟩
      clear hP2 hR2 hit2 hbw2 HX c0 c1 hb2
      unfold plV
      go_wp2_with fail
      go_roundw
      case rel => exact ⟨_, behind p r, HY, by omega, by omega, by omega⟩
      case measure =>
        have := iterPos_of HY.out.1
        unfold setPl at this
        rw [this, hpos0]; omega
    · have hnx : ∀ ty, (Instr.next (.pointer (some ⟨P + 1, 0, none⟩)) true ty).run Try.prog wr = _ := fun ty => Lib.run_next_end_at wr (P + 1) s pos ty hit hp
      rw [drop_end hp, told_nil, behinds_nil] at hbe
      have HE := Lib.hid hbe
      obtain ⟨c0, c1⟩ := hP.cells
      obtain ⟨f0, f1⟩ := hR.free
      obtain ⟨d0, d1⟩ := hR.cells
      obtain ⟨g0, g1⟩ := put_cells hR p.1 p.2
      have HY := Lib.hid hbw
      clear hbe hP hR hit hbw HR
      go_wp2_with fail
      refine bodyPost_ret (v := plV p) (by simp [results, Try.results13, go_sem, plV, g0, g1]) rfl ⟨by rw [HE.out], ?_⟩
      exact (HY.out.setCell (by simp) _).setCell (by simp) _
end Sg
end Go.Proofs.Ytjddojpmgdnicaa
