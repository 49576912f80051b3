/-
  GrammarExprs, walked.
-/
import Derived.Test.YtbphmaoomnocmaaDoorGrAwake
import Derived.Test.YtbphmaoomnocmaaDoorMgPure
import Derived.Test.YtbphmaoomnocmaaDoorRGood
import Derived.Test.YtbphmaoomnocmaaDoorGrDe
namespace Go.Proofs.YtbphmaoomnocmaaDoor
open Go.RowKit
namespace LawG7Exprs
open Gr
open Knot (Turns NewRow)
open Tr (Nd none0 node4 own_slice Box4 IsNode size good)
open Sg (Tok kt plV)

/-- Where something is wrong nothing is told beside. -/
theorem answer_bad {α : Type} {z : α} {p : St → α × St} {a : Int × (Nat × Nat) × List Tok} (h : (answer z p a).2.2 ≠ 0) : (answer z p a).1 = z := by
  unfold answer at h ⊢
  by_cases h0 : a.1 = 0
  · rw [if_pos h0] at h ⊢
    simp only at h ⊢
    unfold done at h ⊢
    by_cases h1 : (fin (p ⟨kt a.2.2, 0⟩).2).err = 0
    · rw [if_pos h1] at h
      exact absurd rfl h
    · rw [if_neg h1]
  · rw [if_neg h0]
theorem expr_fits (s : ByteArray) : size (exprA s).1 ≤ 100000 := by
  by_cases h : (exprA s).2.2 = 0
  · exact Nat.le_trans (expr_size h).2 (by decide)
  · rw [show (exprA s).1 = zeroN from answer_bad h]
    decide
set_option maxHeartbeats 16000000 in
set_option maxRecDepth 100000 in
theorem main (s : ByteArray) (w : World) (g1 : s.size ≤ 4000) {a0 a1 : Addr} (hg : Glob a0 a1 w) :
    Calls Tryd.prog 3 #[.string s] w fun e y => e = .returned (.bool true) ∧ Below w.heap.size w y := by
  have HA := Lib.hid (awake_any hg)
  have HE1 := Lib.hid (fun y (hb : Below w.heap.size w y) => Expr_any (s := s) (by omega) (hg.below hb))
  have HE2 := Lib.hid (fun y => rexpr_any (s := s) (w := y) (by omega))
  have HS := Lib.hid (expr_fits s)
  have HGd := Lib.hid (fun h => (expr_size (s := s) h).1)
  have e1 : decide ((4000 : Int) < (s.size : Int)) = false := by simp; omega
  clear hg g1
  go_enter Tryd.func3, Tryd.ntmps3
  go_wp2_with fail
  refine HA.out.mono ?_
  rintro e w1 ⟨rfl, b1⟩
  have HB1 := Lib.hid b1
  clear b1 HA
  go_wp2_with fail
  refine (HE1.out _ HB1.out).mono ?_
  rintro e y1 ⟨v1, rfl, hv1, by1⟩
  clear HE1 e1
  have hi1 : IsNode y1 (exprA s).1 v1 := NodeS.is _ (Nat.le_refl _) hv1
  generalize exprA s = r1 at *
  obtain ⟨n, ⟨l, m⟩, k⟩ := r1
  simp only [plV] at *
  obtain ⟨o1, c1, us1, rfl, -⟩ := NodeS.open hv1
  have al : Below y1.heap.size y1 ((y1.alloc (.cells #[.int .i64 n.kind, .string n.ta, .string n.tb, .slice o1 n.kids.length c1] 25)).alloc (.cells #[.int .i64 l, .int .i64 m] tPl)) := ((Below.refl _ _).alloc (Nat.le_refl _) _).alloc (by simp) _
  have hbx : Box4 y1.heap.size n.kind n.ta n.tb (.slice o1 n.kids.length c1) ((y1.alloc (.cells #[.int .i64 n.kind, .string n.ta, .string n.tb, .slice o1 n.kids.length c1] 25)).alloc (.cells #[.int .i64 l, .int .i64 m] tPl)) :=
    (Box4.new y1 n.kind n.ta n.tb (.slice o1 n.kids.length c1)).on ((Below.refl _ _).alloc (Nat.le_refl _) _)
  have hsz : (y1.alloc (.cells #[.int .i64 n.kind, .string n.ta, .string n.tb, .slice o1 n.kids.length c1] 25)).heap.size = y1.heap.size + 1 := by simp
  have hpl := heap_alloc_new (y1.alloc (.cells #[.int .i64 n.kind, .string n.ta, .string n.tb, .slice o1 n.kids.length c1] 25)) (.cells #[.int .i64 l, .int .i64 m] tPl)
  rw [hsz] at hpl
  have hW := (HB1.out.trans (by1.mono HB1.out.size)).trans (al.mono (Nat.le_trans HB1.out.size by1.size))
  have hj1 := hi1.below al
  have H1 := Lib.hid (And.intro hbx (And.intro hW (And.intro hj1 hpl)))
  clear hbx hW hj1 hi1 hv1 by1 HB1 al hsz hpl
  go_wp2_with fail
  generalize (y1.alloc (.cells #[.int .i64 n.kind, .string n.ta, .string n.tb, .slice o1 n.kids.length c1] 25)).alloc (.cells #[.int .i64 l, .int .i64 m] tPl) = A1 at *
  generalize y1.heap.size = R1 at *
  refine (HE2.out _).mono ?_
  rintro e y2 ⟨v2, rfl, hv2, by2⟩
  clear HE2
  have hi2 : IsNode y2 n v2 := NodeS.is _ (Nat.le_refl _) hv2
  obtain ⟨o2, c2, us2, rfl, -⟩ := NodeS.open hv2
  have al : Below y2.heap.size y2 (y2.alloc (.cells #[.int .i64 n.kind, .string n.ta, .string n.tb, .slice o2 n.kids.length c2] 25)) := (Below.refl _ _).alloc (Nat.le_refl _) _
  have hbx : Box4 y2.heap.size n.kind n.ta n.tb (.slice o2 n.kids.length c2) (y2.alloc (.cells #[.int .i64 n.kind, .string n.ta, .string n.tb, .slice o2 n.kids.length c2] 25)) := Box4.new y2 n.kind n.ta n.tb (.slice o2 n.kids.length c2)
  have b12 := by2.trans (al.mono by2.size)
  have hpl := (b12.block _ (Array.getElem?_eq_some_iff.1 H1.out.2.2.2).1).trans H1.out.2.2.2
  have HS2 := Lib.hid (rsame_any _ n _ _ _ (Nat.le_refl _) HS.out (H1.out.2.2.1.below b12) (hi2.below al))
  have HI := Lib.hid (H1.out.2.2.1.below b12)
  have H2 := Lib.hid (And.intro (H1.out.1.on b12) (And.intro hbx (H1.out.2.1.trans (b12.mono H1.out.2.1.size))))
  obtain ⟨i0, i1, i2, i3⟩ := H2.out.1.cells
  obtain ⟨j0, j1, j2, j3⟩ := H2.out.2.1.cells
  obtain ⟨p0, p1, -, -⟩ := pl_cells hpl
  clear hbx hi2 hv2 by2 al b12 hpl H1
  by_cases hk : k = 0
  · subst hk
    have hgd := HGd.out rfl
    go_wp2_with fail
    refine HS2.out.mono ?_
    rintro e x ⟨rfl, hx⟩
    have HX := Lib.hid (H2.out.2.2.trans (hx.mono H2.out.2.2.size))
    have HG := Lib.hid (rgood_any _ n _ _ (Nat.le_refl _) HS.out (HI.out.below hx))
    rw [hgd] at HG
    have hbo := H2.out.1.on hx
    clear i0 i1 i2 i3 j0 j1 j2 j3 p0 p1 HS2 H2 HI hx hgd
    obtain ⟨i0, i1, i2, i3⟩ := hbo.cells
    clear hbo
    go_wp2_with fail
    refine HG.out.mono ?_
    rintro e z ⟨rfl, hz⟩
    go_wp2_with fail
    go_ret
    exact ⟨rfl, HX.out.trans (hz.mono HX.out.size)⟩
  · have ek : (k != 0) = true := by simpa using hk
    go_wp2_with fail
    refine HS2.out.mono ?_
    rintro e x ⟨rfl, hx⟩
    have HX := Lib.hid (H2.out.2.2.trans (hx.mono H2.out.2.2.size))
    clear i0 i1 i2 i3 j0 j1 j2 j3 p0 p1 HS2 H2 HI hx
    go_wp2_with fail
    go_ret
    exact ⟨rfl, HX.out⟩
set_option maxHeartbeats 16000000 in
set_option maxRecDepth 100000 in
theorem early (s : ByteArray) (w : World) {a0 a1 : Addr} (hg : Glob a0 a1 w) (h : 4000 < s.size) :
    Calls Tryd.prog 3 #[.string s] w fun e y => e = .returned (.bool true) ∧ Below w.heap.size w y := by
  have HA := Lib.hid (fun y (hb : Below w.heap.size w y) => awake_any (hg.below hb))
  have e1 : decide ((4000 : Int) < (s.size : Int)) = true := by simp; omega
  clear hg h
  go_enter Tryd.func3, Tryd.ntmps3
  go_wp2_with fail
  refine (HA.out w (Below.refl _ _)).mono ?_
  rintro e w1 ⟨rfl, b1⟩
  have HB1 := Lib.hid b1
  clear b1
  go_wp2_with fail
  refine (HA.out _ HB1.out).mono ?_
  rintro e w2 ⟨rfl, b2⟩
  go_wp2_with fail
  go_ret
  exact ⟨rfl, HB1.out.trans (b2.mono HB1.out.size)⟩
theorem walk (s : ByteArray) (w : World) (_hs : s.size ≤ maxLen) {a0 a1 : Addr} (hg : Glob a0 a1 w) :
    Calls Tryd.prog 3 #[.string s] w fun e y => e = .returned (.bool true) ∧ Below w.heap.size w y := by
  by_cases g1 : 4000 < s.size
  · exact early s w hg g1
  · exact main s w (by omega) hg
end LawG7Exprs
end Go.Proofs.YtbphmaoomnocmaaDoor
