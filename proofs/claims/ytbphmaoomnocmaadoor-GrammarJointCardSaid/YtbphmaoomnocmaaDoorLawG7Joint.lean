/-
  GrammarJoint, walked. Written by gen/mk_jt.py and ord.py.
-/
import Derived.Test.YtbphmaoomnocmaaDoorGrAwake
import Derived.Test.YtbphmaoomnocmaaDoorGrExt
import Derived.Test.YtbphmaoomnocmaaDoorRGood
import Derived.Test.YtbphmaoomnocmaaDoorOrder
import Derived.BigQuiet
namespace Go.Proofs.YtbphmaoomnocmaaDoor
open Go.RowKit
namespace LawG7Joint
open Gr
open Knot (Turns NewRow)
open Tr (IsNodes Nd none0 node4 own_slice Box4 IsNode size)
open Sg (Tok kt plV)

def slash2 : ByteArray := ⟨#[47, 47]⟩
set_option maxHeartbeats 16000000 in
set_option maxRecDepth 100000 in
theorem early (s t : ByteArray) (c : Int) (w : World) (_hs : s.size ≤ maxLen) (_ht : t.size ≤ maxLen) (hm : ∃ m, w.cell? ⟨2, 0, none⟩ = some (.int .i64 m)) {a0 a1 : Addr} (hg : Glob a0 a1 w)
    (h : 1000 < s.size ∨ 1000 < t.size ∨ Lib.contains s.data.toList slash2.data.toList = true ∨ Lib.contains t.data.toList slash2.data.toList = true) :
    Calls Tryd.prog 7 #[.string s, .string t, .int .u8 c] w fun e y => e = .returned (.bool true) ∧ Below w.heap.size w y := by
  have HA := Lib.hid (fun y (hb : Below w.heap.size w y) => awake_any (hg.below hb))
  have HM := Lib.hid (fun y (hb : Below w.heap.size w y) => (by obtain ⟨m, hm⟩ := hm; exact ⟨m, (hb.cell (p := ⟨2, 0, none⟩) (World.block_lt_of_cell? w _ hm)).trans hm⟩ : ∃ m, y.cell? ⟨2, 0, none⟩ = some (.int .i64 m)))
  clear hm hg
  by_cases g1 : 1000 < s.size
  · have e1 : decide ((1000 : Int) < (s.size : Int)) = true := by simp; omega
    clear h g1 _hs _ht
    go_enter Tryd.func7, Tryd.ntmps7
    go_wp2_with fail
    refine (HA.out w (Below.refl _ _)).mono ?_
    rintro e w1 ⟨rfl, b1⟩
    have HB1 := Lib.hid b1
    obtain ⟨m, hm⟩ := HM.out w1 b1
    clear b1
    go_wp2_with fail
    refine (HA.out _ HB1.out).mono ?_
    rintro e w2 ⟨rfl, b2⟩
    go_wp2_with fail
    go_ret
    exact ⟨rfl, HB1.out.trans (b2.mono HB1.out.size)⟩
  have e1 : decide ((1000 : Int) < (s.size : Int)) = false := by simp; omega
  by_cases g2 : 1000 < t.size
  · have e2 : decide ((1000 : Int) < (t.size : Int)) = true := by simp; omega
    clear h g1 g2 _hs _ht
    go_enter Tryd.func7, Tryd.ntmps7
    go_wp2_with fail
    refine (HA.out w (Below.refl _ _)).mono ?_
    rintro e w1 ⟨rfl, b1⟩
    have HB1 := Lib.hid b1
    obtain ⟨m, hm⟩ := HM.out w1 b1
    clear b1
    go_wp2_with fail
    refine (HA.out _ HB1.out).mono ?_
    rintro e w2 ⟨rfl, b2⟩
    go_wp2_with fail
    go_ret
    exact ⟨rfl, HB1.out.trans (b2.mono HB1.out.size)⟩
  have e2 : decide ((1000 : Int) < (t.size : Int)) = false := by simp; omega
  cases hS : Lib.contains s.data.toList slash2.data.toList with
  | true =>
    go_enter Tryd.func7, Tryd.ntmps7
    go_wp2_with fail
    refine (HA.out w (Below.refl _ _)).mono ?_
    rintro e w1 ⟨rfl, b1⟩
    have HB1 := Lib.hid b1
    obtain ⟨m, hm⟩ := HM.out w1 b1
    clear b1
    have hcs := Tryd.strings_Contains s slash2 m w1 (by omega) hm
    rw [hS] at hcs

    clear h _hs _ht g1 g2 hS
    go_wp2_with fail
    refine hcs.mono ?_
    rintro e w1' ⟨rfl, rfl⟩
    go_wp2_with fail
    refine (HA.out _ HB1.out).mono ?_
    rintro e w2 ⟨rfl, b2⟩
    go_wp2_with fail
    go_ret
    exact ⟨rfl, HB1.out.trans (b2.mono HB1.out.size)⟩
  | false =>
    have hT : Lib.contains t.data.toList slash2.data.toList = true := by
      rcases h with h | h | h | h
      · omega
      · omega
      · rw [hS] at h; cases h
      · exact h
    go_enter Tryd.func7, Tryd.ntmps7
    go_wp2_with fail
    refine (HA.out w (Below.refl _ _)).mono ?_
    rintro e w1 ⟨rfl, b1⟩
    have HB1 := Lib.hid b1
    obtain ⟨m, hm⟩ := HM.out w1 b1
    clear b1
    have hcs := Tryd.strings_Contains s slash2 m w1 (by omega) hm
    rw [hS] at hcs
    have hct := Tryd.strings_Contains t slash2 m w1 (by omega) hm
    rw [hT] at hct

    clear h _hs _ht g1 g2 hS hT
    go_wp2_with fail
    refine hcs.mono ?_
    rintro e w1' ⟨rfl, rfl⟩
    go_wp2_with fail
    refine hct.mono ?_
    rintro e w1' ⟨rfl, rfl⟩
    go_wp2_with fail
    refine (HA.out _ HB1.out).mono ?_
    rintro e w2 ⟨rfl, b2⟩
    go_wp2_with fail
    go_ret
    exact ⟨rfl, HB1.out.trans (b2.mono HB1.out.size)⟩

theorem joint_any {s t : ByteArray} (h1 : Lib.contains s.data.toList slash2.data.toList = false) (h2 : Lib.contains t.data.toList slash2.data.toList = false) (hz : s.size ≤ 1000) (hz2 : t.size ≤ 1000) (m : ByteArray) (k : Int) (hm : (m.data.toList, k) ∈ mids)
    (hs : (exprA s).2.2 = 0) (ht : (exprA t).2.2 = 0) {j : ByteArray} (hj : j.data.toList = 40 :: (s.data.toList ++ 41 :: (m.data.toList ++ 40 :: (t.data.toList ++ [41])))) :
    (exprA j).2.2 = 12 ∨ ((exprA j).2.2 = 0 ∧ (exprA j).1 = .mk k none0 none0 [(exprA s).1, (exprA t).1]) := by
  obtain ⟨q, hq, -, ho1, hx⟩ := expr_good hs
  obtain ⟨u, hu, -, ho2, hy⟩ := expr_good ht
  exact joint_text hq hu h1 h2 (by rw [← Lib.size_eq]; exact hz) (by rw [← Lib.size_eq]; exact hz2) ho1 ho2 hx hy hm hj
theorem z1 (b : UInt8) : (⟨#[b]⟩ : ByteArray).size = 1 := rfl
theorem z3 (a b c : UInt8) : (⟨#[a, b, c]⟩ : ByteArray).size = 3 := rfl
theorem is_two {x : World} {g cap : Nat} {T : TypeId} {k : Int} {n m : Nd} {a0 a1 a2 a3 b0 b1 b2 b3 : Value} (h : x.heap[g]? = some (.cells #[a0, a1, a2, a3, b0, b1, b2, b3] T (0, 0)))
    (hn : IsNode x n (.agg #[a0, a1, a2, a3])) (hm : IsNode x m (.agg #[b0, b1, b2, b3])) : IsNode x (.mk k none0 none0 [n, m]) (node4 k none0 none0 (.slice (some ⟨g, 0, none⟩) 2 cap)) := by
  rw [IsNode]
  refine ⟨_, cap, [.agg #[a0, a1, a2, a3], .agg #[b0, b1, b2, b3]], rfl, ⟨by decide, by decide⟩, fun _ => ⟨g, 0, rfl, row_two h⟩, ?_⟩
  rw [IsNodes]
  refine ⟨_, _, rfl, hn, ?_⟩
  rw [IsNodes]
  refine ⟨_, _, rfl, hm, ?_⟩
  rw [IsNodes]
/-- The two nodes in their boxes. -/
structure Bs (R1 R2 : Nat) (n1 n2 : Nd) (s1 s2 : Value) (w : World) : Prop where
  b1 : Box4 R1 n1.kind n1.ta n1.tb s1 w
  b2 : Box4 R2 n2.kind n2.ta n2.tb s2 w
  i1 : IsNode w n1 (node4 n1.kind n1.ta n1.tb s1)
  i2 : IsNode w n2 (node4 n2.kind n2.ta n2.tb s2)
theorem Bs.on {R1 R2 : Nat} {n1 n2 : Nd} {s1 s2 : Value} {w x : World} (h : Bs R1 R2 n1 n2 s1 s2 w) (hb : Below w.heap.size w x) : Bs R1 R2 n1 n2 s1 s2 x := ⟨h.b1.on hb, h.b2.on hb, h.i1.below hb, h.i2.below hb⟩
set_option maxHeartbeats 16000000 in
set_option maxRecDepth 100000 in
theorem main (s t : ByteArray) (c : Int) (w : World) (g1 : s.size ≤ 1000) (g2 : t.size ≤ 1000) (hz : (Lit.int .u8 c).wf = true) (hm : ∃ m, w.cell? ⟨2, 0, none⟩ = some (.int .i64 m)) {a0 a1 : Addr} (hg : Glob a0 a1 w)
    (hS : Lib.contains s.data.toList slash2.data.toList = false) (hT : Lib.contains t.data.toList slash2.data.toList = false) :
    Calls Tryd.prog 7 #[.string s, .string t, .int .u8 c] w fun e y => e = .returned (.bool true) ∧ Below w.heap.size w y := by
  have hc3 : wrap64 (c.tmod 3) = 0 ∨ wrap64 (c.tmod 3) = 1 ∨ wrap64 (c.tmod 3) = 2 := by
    have := hz
    simp [Lit.wf, IntKind.min, IntKind.max, IntKind.bits, IntKind.signed] at this
    rw [Int.tmod_eq_emod_of_nonneg (by omega)]
    have h3 : c % 3 = 0 ∨ c % 3 = 1 ∨ c % 3 = 2 := by omega
    rcases h3 with h | h | h <;> rw [h] <;> decide +kernel
  have HA := Lib.hid (fun y (hb : Below w.heap.size w y) => awake_any (hg.below hb))
  have HM := Lib.hid (fun y (hb : Below w.heap.size w y) => (by obtain ⟨m, hm⟩ := hm; exact ⟨m, (hb.cell (p := ⟨2, 0, none⟩) (World.block_lt_of_cell? w _ hm)).trans hm⟩ : ∃ m, y.cell? ⟨2, 0, none⟩ = some (.int .i64 m)))
  have HG := Lib.hid hg
  have HJ := Lib.hid (fun m k hm hs ht {j} => joint_any hS hT g1 g2 m k hm hs ht (j := j))
  have HE1 := Lib.hid (fun y (hb : Below w.heap.size w y) => Expr_any (s := s) (by omega) (hg.below hb))
  have HE2 := Lib.hid (fun y (hb : Below w.heap.size w y) => Expr_any (s := t) (by omega) (hg.below hb))
  have e1 : decide ((1000 : Int) < (s.size : Int)) = false := by simp; omega
  have e2 : decide ((1000 : Int) < (t.size : Int)) = false := by simp; omega
  have HGG := Lib.hid (And.intro g1 (And.intro g2 hc3))
  clear hm hg hz hc3
  go_enter Tryd.func7, Tryd.ntmps7
  go_wp2_with fail
  refine (HA.out w (Below.refl _ _)).mono ?_
  rintro e w1 ⟨rfl, b1⟩
  have HB1 := Lib.hid b1
  obtain ⟨m, hm⟩ := HM.out w1 b1
  clear b1
  have hcs := Tryd.strings_Contains s slash2 m w1 (by omega) hm
  rw [hS] at hcs
  have hct := Tryd.strings_Contains t slash2 m w1 (by omega) hm
  rw [hT] at hct
  clear hS hT hm g1 g2
  go_wp2_with fail
  refine hcs.mono ?_
  rintro e w1' ⟨rfl, rfl⟩
  go_wp2_with fail
  refine hct.mono ?_
  rintro e w1' ⟨rfl, rfl⟩
  clear hcs hct e1 e2 HM HA
  go_wp2_with fail
  refine (HE1.out _ HB1.out).mono ?_
  rintro e y1 ⟨v1, rfl, hv1, by1⟩
  clear HE1
  have hi1 : IsNode y1 (exprA s).1 v1 := NodeS.is _ (Nat.le_refl _) hv1
  generalize exprA s = r1 at *
  obtain ⟨n1, ⟨l1, m1⟩, k1⟩ := r1
  simp only [plV] at *
  obtain ⟨o1, c1, us1, rfl, -⟩ := NodeS.open hv1
  have al : Below y1.heap.size y1 ((y1.alloc (.cells #[.int .i64 n1.kind, .string n1.ta, .string n1.tb, .slice o1 n1.kids.length c1] 25)).alloc (.cells #[.int .i64 l1, .int .i64 m1] tPl)) := ((Below.refl _ _).alloc (Nat.le_refl _) _).alloc (by simp) _
  have hbx : Box4 y1.heap.size n1.kind n1.ta n1.tb (.slice o1 n1.kids.length c1) ((y1.alloc (.cells #[.int .i64 n1.kind, .string n1.ta, .string n1.tb, .slice o1 n1.kids.length c1] 25)).alloc (.cells #[.int .i64 l1, .int .i64 m1] tPl)) :=
    (Box4.new y1 n1.kind n1.ta n1.tb (.slice o1 n1.kids.length c1)).on ((Below.refl _ _).alloc (Nat.le_refl _) _)
  have hW := (HB1.out.trans (by1.mono HB1.out.size)).trans (al.mono (Nat.le_trans HB1.out.size by1.size))
  have hj1 := hi1.below al
  have H1 := Lib.hid (And.intro hbx (And.intro hW hj1))
  clear hbx hW hj1 hi1 hv1 by1 HB1 al
  go_wp2_with fail
  generalize (y1.alloc (.cells #[.int .i64 n1.kind, .string n1.ta, .string n1.tb, .slice o1 n1.kids.length c1] 25)).alloc (.cells #[.int .i64 l1, .int .i64 m1] tPl) = A1 at *
  generalize y1.heap.size = R1 at *
  refine (HE2.out _ H1.out.2.1).mono ?_
  rintro e y2 ⟨v2, rfl, hv2, by2⟩
  clear HE2
  have hi2 : IsNode y2 (exprA t).1 v2 := NodeS.is _ (Nat.le_refl _) hv2
  generalize exprA t = r2 at *
  obtain ⟨n2, ⟨l2, m2⟩, k2⟩ := r2
  simp only at *
  obtain ⟨o2, c2, us2, rfl, -⟩ := NodeS.open hv2
  have al : Below y2.heap.size y2 ((y2.alloc (.cells #[.int .i64 n2.kind, .string n2.ta, .string n2.tb, .slice o2 n2.kids.length c2] 25)).alloc (.cells #[.int .i64 l2, .int .i64 m2] tPl)) := ((Below.refl _ _).alloc (Nat.le_refl _) _).alloc (by simp) _
  have hbx : Box4 y2.heap.size n2.kind n2.ta n2.tb (.slice o2 n2.kids.length c2) ((y2.alloc (.cells #[.int .i64 n2.kind, .string n2.ta, .string n2.tb, .slice o2 n2.kids.length c2] 25)).alloc (.cells #[.int .i64 l2, .int .i64 m2] tPl)) :=
    (Box4.new y2 n2.kind n2.ta n2.tb (.slice o2 n2.kids.length c2)).on ((Below.refl _ _).alloc (Nat.le_refl _) _)
  have hW := (H1.out.2.1.trans (by2.mono H1.out.2.1.size)).trans (al.mono (Nat.le_trans H1.out.2.1.size by2.size))
  have hBs : Bs R1 y2.heap.size n1 n2 (.slice o1 n1.kids.length c1) (.slice o2 n2.kids.length c2) _ := ⟨(H1.out.1.on by2).on al, hbx, (H1.out.2.2.below by2).below al, hi2.below al⟩
  have HBw := Lib.hid hW
  have HBs := Lib.hid hBs
  clear hbx hW hBs hi2 hv2 by2 H1 al
  by_cases k1z : k1 = 0
  · subst k1z
    by_cases k2z : k2 = 0
    · subst k2z
      obtain ⟨-, -, hc3⟩ := HGG.out
      rcases hc3 with hc | hc | hc
      · have hmod : wrap64 (c.tmod 3) = 0 := hc
        clear hc
        obtain ⟨g1, g2, -⟩ := HGG.out
        have q0 : ∀ W, (Op.stringOp .add (⟨#[40]⟩ : ByteArray) s).run Tryd.prog W = .ok (.string (⟨#[40]⟩ ++ s)) W := fun W => run_string_add_sum W _ _ (by simp only [z1]; omega)
        have q1 : ∀ W, (Op.stringOp .add ((⟨#[40]⟩ ++ s) : ByteArray) ⟨#[41]⟩).run Tryd.prog W = .ok (.string ((⟨#[40]⟩ ++ s) ++ ⟨#[41]⟩)) W := fun W => run_string_add_sum W _ _ (by simp only [ByteArray.size_append, z1]; omega)
        have q2 : ∀ W, (Op.stringOp .add (((⟨#[40]⟩ ++ s) ++ ⟨#[41]⟩) : ByteArray) ⟨#[124]⟩).run Tryd.prog W = .ok (.string (((⟨#[40]⟩ ++ s) ++ ⟨#[41]⟩) ++ ⟨#[124]⟩)) W := fun W => run_string_add_sum W _ _ (by simp only [ByteArray.size_append, z1]; omega)
        have q3 : ∀ W, (Op.stringOp .add ((((⟨#[40]⟩ ++ s) ++ ⟨#[41]⟩) ++ ⟨#[124]⟩) : ByteArray) ⟨#[40]⟩).run Tryd.prog W = .ok (.string ((((⟨#[40]⟩ ++ s) ++ ⟨#[41]⟩) ++ ⟨#[124]⟩) ++ ⟨#[40]⟩)) W := fun W => run_string_add_sum W _ _ (by simp only [ByteArray.size_append, z1]; omega)
        have q4 : ∀ W, (Op.stringOp .add (((((⟨#[40]⟩ ++ s) ++ ⟨#[41]⟩) ++ ⟨#[124]⟩) ++ ⟨#[40]⟩) : ByteArray) t).run Tryd.prog W = .ok (.string (((((⟨#[40]⟩ ++ s) ++ ⟨#[41]⟩) ++ ⟨#[124]⟩) ++ ⟨#[40]⟩) ++ t)) W := fun W => run_string_add_sum W _ _ (by simp only [ByteArray.size_append, z1]; omega)
        have q5 : ∀ W, (Op.stringOp .add ((((((⟨#[40]⟩ ++ s) ++ ⟨#[41]⟩) ++ ⟨#[124]⟩) ++ ⟨#[40]⟩) ++ t) : ByteArray) ⟨#[41]⟩).run Tryd.prog W = .ok (.string ((((((⟨#[40]⟩ ++ s) ++ ⟨#[41]⟩) ++ ⟨#[124]⟩) ++ ⟨#[40]⟩) ++ t) ++ ⟨#[41]⟩)) W := fun W => run_string_add_sum W _ _ (by simp only [ByteArray.size_append, z1]; omega)
        have hJ := HJ.out ⟨#[124]⟩ 4 (by simp [mids]) rfl rfl (j := ((((((⟨#[40]⟩ ++ s) ++ ⟨#[41]⟩) ++ ⟨#[124]⟩) ++ ⟨#[40]⟩) ++ t) ++ ⟨#[41]⟩)) (by simp [ByteArray.data_append])
        have HE := Lib.hid (Expr_any (s := ((((((⟨#[40]⟩ ++ s) ++ ⟨#[41]⟩) ++ ⟨#[124]⟩) ++ ⟨#[40]⟩) ++ t) ++ ⟨#[41]⟩)) (by simp only [ByteArray.size_append, z1]; omega) (HG.out.below HBw.out))
        clear g1 g2 HJ
        have HJJ := Lib.hid hJ
        clear hJ
        have ix : ∀ W, (Instr.index 55 (.agg #[.string ⟨#[124]⟩, .string ⟨#[38]⟩, .string ⟨#[32, 45, 32]⟩]) (.int .i64 0)).run Tryd.prog W = .ok (.string ⟨#[124]⟩) W := fun _ => by kernel_rfl
        go_wp2_with fail
        simp only [hmod]
        go_wp2_with fail
        clear q0 q1 q2 q3 q4 q5
        refine HE.out.mono ?_
        rintro e y3 ⟨v3, rfl, hv3, by3⟩
        clear HE
        have hi3 : IsNode y3 (exprA ((((((⟨#[40]⟩ ++ s) ++ ⟨#[41]⟩) ++ ⟨#[124]⟩) ++ ⟨#[40]⟩) ++ t) ++ ⟨#[41]⟩)).1 v3 := NodeS.is _ (Nat.le_refl _) hv3
        have hsz : (exprA ((((((⟨#[40]⟩ ++ s) ++ ⟨#[41]⟩) ++ ⟨#[124]⟩) ++ ⟨#[40]⟩) ++ t) ++ ⟨#[41]⟩)).2.2 = 0 → size (exprA ((((((⟨#[40]⟩ ++ s) ++ ⟨#[41]⟩) ++ ⟨#[124]⟩) ++ ⟨#[40]⟩) ++ t) ++ ⟨#[41]⟩)).1 ≤ 6000 := fun h => (expr_size h).2
        have HB3 := Lib.hid (And.intro (HBs.out.on by3) (HBw.out.trans (by3.mono HBw.out.size)))
        generalize exprA ((((((⟨#[40]⟩ ++ s) ++ ⟨#[41]⟩) ++ ⟨#[124]⟩) ++ ⟨#[40]⟩) ++ t) ++ ⟨#[41]⟩) = r3 at *
        obtain ⟨n3, ⟨l3, m3⟩, k3⟩ := r3
        simp only [plV] at *
        obtain ⟨o3, c3, us3, rfl, -⟩ := NodeS.open hv3
        clear hv3 by3 HBw HBs
        have HZ := Lib.hid (And.intro hi3 hsz)
        clear hi3 hsz
        have al : Below y3.heap.size y3 ((y3.alloc (.cells #[.int .i64 n3.kind, .string n3.ta, .string n3.tb, .slice o3 n3.kids.length c3] 25)).alloc (.cells #[.int .i64 l3, .int .i64 m3] tPl)) := ((Below.refl _ _).alloc (Nat.le_refl _) _).alloc (by simp) _
        have hbx : Box4 y3.heap.size n3.kind n3.ta n3.tb (.slice o3 n3.kids.length c3) ((y3.alloc (.cells #[.int .i64 n3.kind, .string n3.ta, .string n3.tb, .slice o3 n3.kids.length c3] 25)).alloc (.cells #[.int .i64 l3, .int .i64 m3] tPl)) :=
          (Box4.new y3 n3.kind n3.ta n3.tb (.slice o3 n3.kids.length c3)).on ((Below.refl _ _).alloc (Nat.le_refl _) _)
        have HT := Lib.hid (show Bs R1 y2.heap.size n1 n2 (.slice o1 n1.kids.length c1) (.slice o2 n2.kids.length c2) ((y3.alloc (.cells #[.int .i64 n3.kind, .string n3.ta, .string n3.tb, .slice o3 n3.kids.length c3] 25)).alloc (.cells #[.int .i64 l3, .int .i64 m3] tPl)) ∧ Below w.heap.size w ((y3.alloc (.cells #[.int .i64 n3.kind, .string n3.ta, .string n3.tb, .slice o3 n3.kids.length c3] 25)).alloc (.cells #[.int .i64 l3, .int .i64 m3] tPl)) ∧ Box4 y3.heap.size n3.kind n3.ta n3.tb (.slice o3 n3.kids.length c3) ((y3.alloc (.cells #[.int .i64 n3.kind, .string n3.ta, .string n3.tb, .slice o3 n3.kids.length c3] 25)).alloc (.cells #[.int .i64 l3, .int .i64 m3] tPl)) ∧ IsNode ((y3.alloc (.cells #[.int .i64 n3.kind, .string n3.ta, .string n3.tb, .slice o3 n3.kids.length c3] 25)).alloc (.cells #[.int .i64 l3, .int .i64 m3] tPl)) n3 (node4 n3.kind n3.ta n3.tb (.slice o3 n3.kids.length c3)) from ⟨HB3.out.1.on al, HB3.out.2.trans (al.mono HB3.out.2.size), hbx, HZ.out.1.below al⟩)
        clear hbx al HB3
        rcases HJJ.out with h12 | ⟨h0, hn3⟩
        · subst h12
          clear HJJ HZ
          go_wp2_with fail
          go_quiet (fail)
          go_wp2_with fail
          go_ret
          exact ⟨rfl, below_drewN HT.out.2.1 _⟩
        · subst h0
          have HN := Lib.hid hn3
          have HZZ := Lib.hid (show size n3 ≤ 100000 from Nat.le_trans (HZ.out.2 (by trivial)) (by decide))
          have jx : ∀ W, (Instr.index 56 (.agg #[.int .i64 4, .int .i64 5, .int .i64 6]) (.int .i64 0)).run Tryd.prog W = .ok (.int .i64 4) W := fun _ => by kernel_rfl
          clear HJJ hn3 HZ ix
          go_wp2_with fail
          generalize ((y3.alloc (.cells #[.int .i64 n3.kind, .string n3.ta, .string n3.tb, .slice o3 n3.kids.length c3] 25)).alloc (.cells #[.int .i64 l3, .int .i64 m3] tPl)) = A3 at *
          generalize y3.heap.size = R3 at *
          generalize y2.heap.size = R2 at *
          have HX := Lib.hid (show ∀ x, Order.Fresh A3.drew x → (x.cell? ⟨R1, 0, none⟩ = some (.int .i64 n1.kind) ∧ x.cell? ⟨R1, 1, none⟩ = some (.string n1.ta) ∧ x.cell? ⟨R1, 2, none⟩ = some (.string n1.tb) ∧ x.cell? ⟨R1, 3, none⟩ = some (.slice o1 n1.kids.length c1)) ∧ (x.cell? ⟨R2, 0, none⟩ = some (.int .i64 n2.kind) ∧ x.cell? ⟨R2, 1, none⟩ = some (.string n2.ta) ∧ x.cell? ⟨R2, 2, none⟩ = some (.string n2.tb) ∧ x.cell? ⟨R2, 3, none⟩ = some (.slice o2 n2.kids.length c2)) ∧ x.cell? ⟨R3, 0, none⟩ = some (.int .i64 n3.kind) ∧ x.cell? ⟨R3, 1, none⟩ = some (.string n3.ta) ∧ x.cell? ⟨R3, 2, none⟩ = some (.string n3.tb) ∧ x.cell? ⟨R3, 3, none⟩ = some (.slice o3 n3.kids.length c3) from
            fun x hx => ⟨(HT.out.1.b1.on ((Below.refl _ _).drew.trans hx)).cells, (HT.out.1.b2.on ((Below.refl _ _).drew.trans hx)).cells, (HT.out.2.2.1.on ((Below.refl _ _).drew.trans hx)).cells⟩)
          refine Order.region_begin (S := Order.Fresh A3.drew) (by kernel_rfl) ?_
          refine Order.reads_any (idx := [0, 1, 2, 3, 4, 5, 6, 7, 8, 9, 10, 11]) (by kernel_rfl) (Order.Fresh.refl _) (fun _ _ _ _ _ h => Order.noPanic_put h) 6 _ _ (by decide +kernel) ?_
          simp only [Order.pick, List.getElem?_toArray, List.getElem?_cons_zero, List.getElem?_cons_succ]
          repeat (first
            | (refine Order.reads_off (by rfl) ?_
               simp only [Act.put, List.setIfInBounds_toArray, List.set_cons_zero, List.set_cons_succ])
            | (apply Order.reads_on
               · rfl
               · intro x hx
                 first
                   | (go_simp; rfl)
                   | (obtain ⟨⟨i0, i1, i2, i3⟩, ⟨j0, j1, j2, j3⟩, m0, m1, m2, m3⟩ := HX.out x hx
                      go_simp; rfl)
               simp only [Act.put, List.setIfInBounds_toArray, List.set_cons_zero, List.set_cons_succ]))
          refine Order.reads_end ?_
          apply Order.acts_any (R := Order.Fresh) Order.Fresh.trans (i := 12)
          · rfl
          · decide +kernel
          · rfl
          unfold Oper.wp
          go_simp
          refine ⟨(Below.refl _ _).alloc (Nat.le_refl _) _, ?_⟩
          have hrow := heap_alloc_new A3.drew (.cells #[.int .i64 n1.kind, .string n1.ta, .string n1.tb, .slice o1 n1.kids.length c1, .int .i64 n2.kind, .string n2.ta, .string n2.tb, .slice o2 n2.kids.length c2] 25)
          have hb4 : Below A3.heap.size A3 (A3.drew.alloc (.cells #[.int .i64 n1.kind, .string n1.ta, .string n1.tb, .slice o1 n1.kids.length c1, .int .i64 n2.kind, .string n2.ta, .string n2.tb, .slice o2 n2.kids.length c2] 25)) := (Below.refl A3.heap.size A3).drew.alloc (by first | exact Nat.le_refl _ | simp) _
          have hnode : IsNode (A3.drew.alloc (.cells #[.int .i64 n1.kind, .string n1.ta, .string n1.tb, .slice o1 n1.kids.length c1, .int .i64 n2.kind, .string n2.ta, .string n2.tb, .slice o2 n2.kids.length c2] 25)) n3 (node4 4 none0 none0 (.slice (some ⟨A3.drew.heap.size, 0, none⟩) 2 2)) := by rw [HN.out]; exact is_two hrow (HT.out.1.i1.below hb4) (HT.out.1.i2.below hb4)
          have HC := Lib.hid (rsame_any _ n3 _ _ _ (Nat.le_refl _) HZZ.out (HT.out.2.2.2.below hb4) hnode)
          have HE := Lib.hid (HT.out.2.1.trans (hb4.mono HT.out.2.1.size))
          clear hrow hb4 hnode HT HX HN HZZ jx
          refine Order.reads_any (idx := [13]) (by kernel_rfl) (Order.Fresh.refl _) (fun _ _ _ _ _ h => Order.noPanic_put h) 4 _ _ (by decide +kernel) ?_
          simp only [Order.pick, List.getElem?_toArray, List.getElem?_cons_zero, List.getElem?_cons_succ]
          repeat (first
            | (refine Order.reads_off (by rfl) ?_
               simp only [Act.put, List.setIfInBounds_toArray, List.set_cons_zero, List.set_cons_succ])
            | (apply Order.reads_on
               · rfl
               · intro x hx
                 first
                   | (go_simp; rfl)
                   | (fail
                      go_simp; rfl)
               simp only [Act.put]))
          refine Order.reads_end ?_
          apply Order.acts_any (R := Order.Fresh) Order.Fresh.trans (i := 14)
          · rfl
          · decide +kernel
          · rfl
          unfold Oper.wp
          go_simp
          refine Calls.mono HC.out ?_
          rintro e w5 ⟨rfl, hb5⟩
          refine ⟨hb5, ?_⟩
          have HE2 := Lib.hid (HE.out.trans (hb5.mono HE.out.size))
          clear hb5 HE HC
          refine Order.reads_any (idx := [15, 16, 17]) (by kernel_rfl) (Order.Fresh.refl _) (fun _ _ _ _ _ h => Order.noPanic_put h) 0 _ _ (by decide +kernel) ?_
          simp only [Order.pick, List.getElem?_toArray, List.getElem?_cons_zero, List.getElem?_cons_succ]
          repeat (first
            | (refine Order.reads_off (by rfl) ?_
               simp only [Act.put, List.setIfInBounds_toArray, List.set_cons_zero, List.set_cons_succ])
            | (apply Order.reads_on
               · rfl
               · intro x hx
                 first
                   | (go_simp; rfl)
                   | (fail
                      go_simp; rfl)
               simp only [Act.put, List.setIfInBounds_toArray, List.set_cons_zero, List.set_cons_succ]))
          refine Order.reads_end ?_
          refine wpAnyH_done (by decide +kernel) ?_ _
          refine NoPanic.normal ?_
          go_wp2_with fail
          go_ret
          exact ⟨rfl, HE2.out⟩
      · have hmod : wrap64 (c.tmod 3) = 1 := hc
        clear hc
        obtain ⟨g1, g2, -⟩ := HGG.out
        have q0 : ∀ W, (Op.stringOp .add (⟨#[40]⟩ : ByteArray) s).run Tryd.prog W = .ok (.string (⟨#[40]⟩ ++ s)) W := fun W => run_string_add_sum W _ _ (by simp only [z1]; omega)
        have q1 : ∀ W, (Op.stringOp .add ((⟨#[40]⟩ ++ s) : ByteArray) ⟨#[41]⟩).run Tryd.prog W = .ok (.string ((⟨#[40]⟩ ++ s) ++ ⟨#[41]⟩)) W := fun W => run_string_add_sum W _ _ (by simp only [ByteArray.size_append, z1]; omega)
        have q2 : ∀ W, (Op.stringOp .add (((⟨#[40]⟩ ++ s) ++ ⟨#[41]⟩) : ByteArray) ⟨#[38]⟩).run Tryd.prog W = .ok (.string (((⟨#[40]⟩ ++ s) ++ ⟨#[41]⟩) ++ ⟨#[38]⟩)) W := fun W => run_string_add_sum W _ _ (by simp only [ByteArray.size_append, z1]; omega)
        have q3 : ∀ W, (Op.stringOp .add ((((⟨#[40]⟩ ++ s) ++ ⟨#[41]⟩) ++ ⟨#[38]⟩) : ByteArray) ⟨#[40]⟩).run Tryd.prog W = .ok (.string ((((⟨#[40]⟩ ++ s) ++ ⟨#[41]⟩) ++ ⟨#[38]⟩) ++ ⟨#[40]⟩)) W := fun W => run_string_add_sum W _ _ (by simp only [ByteArray.size_append, z1]; omega)
        have q4 : ∀ W, (Op.stringOp .add (((((⟨#[40]⟩ ++ s) ++ ⟨#[41]⟩) ++ ⟨#[38]⟩) ++ ⟨#[40]⟩) : ByteArray) t).run Tryd.prog W = .ok (.string (((((⟨#[40]⟩ ++ s) ++ ⟨#[41]⟩) ++ ⟨#[38]⟩) ++ ⟨#[40]⟩) ++ t)) W := fun W => run_string_add_sum W _ _ (by simp only [ByteArray.size_append, z1]; omega)
        have q5 : ∀ W, (Op.stringOp .add ((((((⟨#[40]⟩ ++ s) ++ ⟨#[41]⟩) ++ ⟨#[38]⟩) ++ ⟨#[40]⟩) ++ t) : ByteArray) ⟨#[41]⟩).run Tryd.prog W = .ok (.string ((((((⟨#[40]⟩ ++ s) ++ ⟨#[41]⟩) ++ ⟨#[38]⟩) ++ ⟨#[40]⟩) ++ t) ++ ⟨#[41]⟩)) W := fun W => run_string_add_sum W _ _ (by simp only [ByteArray.size_append, z1]; omega)
        have hJ := HJ.out ⟨#[38]⟩ 5 (by simp [mids]) rfl rfl (j := ((((((⟨#[40]⟩ ++ s) ++ ⟨#[41]⟩) ++ ⟨#[38]⟩) ++ ⟨#[40]⟩) ++ t) ++ ⟨#[41]⟩)) (by simp [ByteArray.data_append])
        have HE := Lib.hid (Expr_any (s := ((((((⟨#[40]⟩ ++ s) ++ ⟨#[41]⟩) ++ ⟨#[38]⟩) ++ ⟨#[40]⟩) ++ t) ++ ⟨#[41]⟩)) (by simp only [ByteArray.size_append, z1]; omega) (HG.out.below HBw.out))
        clear g1 g2 HJ
        have HJJ := Lib.hid hJ
        clear hJ
        have ix : ∀ W, (Instr.index 55 (.agg #[.string ⟨#[124]⟩, .string ⟨#[38]⟩, .string ⟨#[32, 45, 32]⟩]) (.int .i64 1)).run Tryd.prog W = .ok (.string ⟨#[38]⟩) W := fun _ => by kernel_rfl
        go_wp2_with fail
        simp only [hmod]
        go_wp2_with fail
        clear q0 q1 q2 q3 q4 q5
        refine HE.out.mono ?_
        rintro e y3 ⟨v3, rfl, hv3, by3⟩
        clear HE
        have hi3 : IsNode y3 (exprA ((((((⟨#[40]⟩ ++ s) ++ ⟨#[41]⟩) ++ ⟨#[38]⟩) ++ ⟨#[40]⟩) ++ t) ++ ⟨#[41]⟩)).1 v3 := NodeS.is _ (Nat.le_refl _) hv3
        have hsz : (exprA ((((((⟨#[40]⟩ ++ s) ++ ⟨#[41]⟩) ++ ⟨#[38]⟩) ++ ⟨#[40]⟩) ++ t) ++ ⟨#[41]⟩)).2.2 = 0 → size (exprA ((((((⟨#[40]⟩ ++ s) ++ ⟨#[41]⟩) ++ ⟨#[38]⟩) ++ ⟨#[40]⟩) ++ t) ++ ⟨#[41]⟩)).1 ≤ 6000 := fun h => (expr_size h).2
        have HB3 := Lib.hid (And.intro (HBs.out.on by3) (HBw.out.trans (by3.mono HBw.out.size)))
        generalize exprA ((((((⟨#[40]⟩ ++ s) ++ ⟨#[41]⟩) ++ ⟨#[38]⟩) ++ ⟨#[40]⟩) ++ t) ++ ⟨#[41]⟩) = r3 at *
        obtain ⟨n3, ⟨l3, m3⟩, k3⟩ := r3
        simp only [plV] at *
        obtain ⟨o3, c3, us3, rfl, -⟩ := NodeS.open hv3
        clear hv3 by3 HBw HBs
        have HZ := Lib.hid (And.intro hi3 hsz)
        clear hi3 hsz
        have al : Below y3.heap.size y3 ((y3.alloc (.cells #[.int .i64 n3.kind, .string n3.ta, .string n3.tb, .slice o3 n3.kids.length c3] 25)).alloc (.cells #[.int .i64 l3, .int .i64 m3] tPl)) := ((Below.refl _ _).alloc (Nat.le_refl _) _).alloc (by simp) _
        have hbx : Box4 y3.heap.size n3.kind n3.ta n3.tb (.slice o3 n3.kids.length c3) ((y3.alloc (.cells #[.int .i64 n3.kind, .string n3.ta, .string n3.tb, .slice o3 n3.kids.length c3] 25)).alloc (.cells #[.int .i64 l3, .int .i64 m3] tPl)) :=
          (Box4.new y3 n3.kind n3.ta n3.tb (.slice o3 n3.kids.length c3)).on ((Below.refl _ _).alloc (Nat.le_refl _) _)
        have HT := Lib.hid (show Bs R1 y2.heap.size n1 n2 (.slice o1 n1.kids.length c1) (.slice o2 n2.kids.length c2) ((y3.alloc (.cells #[.int .i64 n3.kind, .string n3.ta, .string n3.tb, .slice o3 n3.kids.length c3] 25)).alloc (.cells #[.int .i64 l3, .int .i64 m3] tPl)) ∧ Below w.heap.size w ((y3.alloc (.cells #[.int .i64 n3.kind, .string n3.ta, .string n3.tb, .slice o3 n3.kids.length c3] 25)).alloc (.cells #[.int .i64 l3, .int .i64 m3] tPl)) ∧ Box4 y3.heap.size n3.kind n3.ta n3.tb (.slice o3 n3.kids.length c3) ((y3.alloc (.cells #[.int .i64 n3.kind, .string n3.ta, .string n3.tb, .slice o3 n3.kids.length c3] 25)).alloc (.cells #[.int .i64 l3, .int .i64 m3] tPl)) ∧ IsNode ((y3.alloc (.cells #[.int .i64 n3.kind, .string n3.ta, .string n3.tb, .slice o3 n3.kids.length c3] 25)).alloc (.cells #[.int .i64 l3, .int .i64 m3] tPl)) n3 (node4 n3.kind n3.ta n3.tb (.slice o3 n3.kids.length c3)) from ⟨HB3.out.1.on al, HB3.out.2.trans (al.mono HB3.out.2.size), hbx, HZ.out.1.below al⟩)
        clear hbx al HB3
        rcases HJJ.out with h12 | ⟨h0, hn3⟩
        · subst h12
          clear HJJ HZ
          go_wp2_with fail
          go_quiet (fail)
          go_wp2_with fail
          go_ret
          exact ⟨rfl, below_drewN HT.out.2.1 _⟩
        · subst h0
          have HN := Lib.hid hn3
          have HZZ := Lib.hid (show size n3 ≤ 100000 from Nat.le_trans (HZ.out.2 (by trivial)) (by decide))
          have jx : ∀ W, (Instr.index 56 (.agg #[.int .i64 4, .int .i64 5, .int .i64 6]) (.int .i64 1)).run Tryd.prog W = .ok (.int .i64 5) W := fun _ => by kernel_rfl
          clear HJJ hn3 HZ ix
          go_wp2_with fail
          generalize ((y3.alloc (.cells #[.int .i64 n3.kind, .string n3.ta, .string n3.tb, .slice o3 n3.kids.length c3] 25)).alloc (.cells #[.int .i64 l3, .int .i64 m3] tPl)) = A3 at *
          generalize y3.heap.size = R3 at *
          generalize y2.heap.size = R2 at *
          have HX := Lib.hid (show ∀ x, Order.Fresh A3.drew x → (x.cell? ⟨R1, 0, none⟩ = some (.int .i64 n1.kind) ∧ x.cell? ⟨R1, 1, none⟩ = some (.string n1.ta) ∧ x.cell? ⟨R1, 2, none⟩ = some (.string n1.tb) ∧ x.cell? ⟨R1, 3, none⟩ = some (.slice o1 n1.kids.length c1)) ∧ (x.cell? ⟨R2, 0, none⟩ = some (.int .i64 n2.kind) ∧ x.cell? ⟨R2, 1, none⟩ = some (.string n2.ta) ∧ x.cell? ⟨R2, 2, none⟩ = some (.string n2.tb) ∧ x.cell? ⟨R2, 3, none⟩ = some (.slice o2 n2.kids.length c2)) ∧ x.cell? ⟨R3, 0, none⟩ = some (.int .i64 n3.kind) ∧ x.cell? ⟨R3, 1, none⟩ = some (.string n3.ta) ∧ x.cell? ⟨R3, 2, none⟩ = some (.string n3.tb) ∧ x.cell? ⟨R3, 3, none⟩ = some (.slice o3 n3.kids.length c3) from
            fun x hx => ⟨(HT.out.1.b1.on ((Below.refl _ _).drew.trans hx)).cells, (HT.out.1.b2.on ((Below.refl _ _).drew.trans hx)).cells, (HT.out.2.2.1.on ((Below.refl _ _).drew.trans hx)).cells⟩)
          refine Order.region_begin (S := Order.Fresh A3.drew) (by kernel_rfl) ?_
          refine Order.reads_any (idx := [0, 1, 2, 3, 4, 5, 6, 7, 8, 9, 10, 11]) (by kernel_rfl) (Order.Fresh.refl _) (fun _ _ _ _ _ h => Order.noPanic_put h) 6 _ _ (by decide +kernel) ?_
          simp only [Order.pick, List.getElem?_toArray, List.getElem?_cons_zero, List.getElem?_cons_succ]
          repeat (first
            | (refine Order.reads_off (by rfl) ?_
               simp only [Act.put, List.setIfInBounds_toArray, List.set_cons_zero, List.set_cons_succ])
            | (apply Order.reads_on
               · rfl
               · intro x hx
                 first
                   | (go_simp; rfl)
                   | (obtain ⟨⟨i0, i1, i2, i3⟩, ⟨j0, j1, j2, j3⟩, m0, m1, m2, m3⟩ := HX.out x hx
                      go_simp; rfl)
               simp only [Act.put, List.setIfInBounds_toArray, List.set_cons_zero, List.set_cons_succ]))
          refine Order.reads_end ?_
          apply Order.acts_any (R := Order.Fresh) Order.Fresh.trans (i := 12)
          · rfl
          · decide +kernel
          · rfl
          unfold Oper.wp
          go_simp
          refine ⟨(Below.refl _ _).alloc (Nat.le_refl _) _, ?_⟩
          have hrow := heap_alloc_new A3.drew (.cells #[.int .i64 n1.kind, .string n1.ta, .string n1.tb, .slice o1 n1.kids.length c1, .int .i64 n2.kind, .string n2.ta, .string n2.tb, .slice o2 n2.kids.length c2] 25)
          have hb4 : Below A3.heap.size A3 (A3.drew.alloc (.cells #[.int .i64 n1.kind, .string n1.ta, .string n1.tb, .slice o1 n1.kids.length c1, .int .i64 n2.kind, .string n2.ta, .string n2.tb, .slice o2 n2.kids.length c2] 25)) := (Below.refl A3.heap.size A3).drew.alloc (by first | exact Nat.le_refl _ | simp) _
          have hnode : IsNode (A3.drew.alloc (.cells #[.int .i64 n1.kind, .string n1.ta, .string n1.tb, .slice o1 n1.kids.length c1, .int .i64 n2.kind, .string n2.ta, .string n2.tb, .slice o2 n2.kids.length c2] 25)) n3 (node4 5 none0 none0 (.slice (some ⟨A3.drew.heap.size, 0, none⟩) 2 2)) := by rw [HN.out]; exact is_two hrow (HT.out.1.i1.below hb4) (HT.out.1.i2.below hb4)
          have HC := Lib.hid (rsame_any _ n3 _ _ _ (Nat.le_refl _) HZZ.out (HT.out.2.2.2.below hb4) hnode)
          have HE := Lib.hid (HT.out.2.1.trans (hb4.mono HT.out.2.1.size))
          clear hrow hb4 hnode HT HX HN HZZ jx
          refine Order.reads_any (idx := [13]) (by kernel_rfl) (Order.Fresh.refl _) (fun _ _ _ _ _ h => Order.noPanic_put h) 4 _ _ (by decide +kernel) ?_
          simp only [Order.pick, List.getElem?_toArray, List.getElem?_cons_zero, List.getElem?_cons_succ]
          repeat (first
            | (refine Order.reads_off (by rfl) ?_
               simp only [Act.put, List.setIfInBounds_toArray, List.set_cons_zero, List.set_cons_succ])
            | (apply Order.reads_on
               · rfl
               · intro x hx
                 first
                   | (go_simp; rfl)
                   | (fail
                      go_simp; rfl)
               simp only [Act.put]))
          refine Order.reads_end ?_
          apply Order.acts_any (R := Order.Fresh) Order.Fresh.trans (i := 14)
          · rfl
          · decide +kernel
          · rfl
          unfold Oper.wp
          go_simp
          refine Calls.mono HC.out ?_
          rintro e w5 ⟨rfl, hb5⟩
          refine ⟨hb5, ?_⟩
          have HE2 := Lib.hid (HE.out.trans (hb5.mono HE.out.size))
          clear hb5 HE HC
          refine Order.reads_any (idx := [15, 16, 17]) (by kernel_rfl) (Order.Fresh.refl _) (fun _ _ _ _ _ h => Order.noPanic_put h) 0 _ _ (by decide +kernel) ?_
          simp only [Order.pick, List.getElem?_toArray, List.getElem?_cons_zero, List.getElem?_cons_succ]
          repeat (first
            | (refine Order.reads_off (by rfl) ?_
               simp only [Act.put, List.setIfInBounds_toArray, List.set_cons_zero, List.set_cons_succ])
            | (apply Order.reads_on
               · rfl
               · intro x hx
                 first
                   | (go_simp; rfl)
                   | (fail
                      go_simp; rfl)
               simp only [Act.put, List.setIfInBounds_toArray, List.set_cons_zero, List.set_cons_succ]))
          refine Order.reads_end ?_
          refine wpAnyH_done (by decide +kernel) ?_ _
          refine NoPanic.normal ?_
          go_wp2_with fail
          go_ret
          exact ⟨rfl, HE2.out⟩
      · have hmod : wrap64 (c.tmod 3) = 2 := hc
        clear hc
        obtain ⟨g1, g2, -⟩ := HGG.out
        have q0 : ∀ W, (Op.stringOp .add (⟨#[40]⟩ : ByteArray) s).run Tryd.prog W = .ok (.string (⟨#[40]⟩ ++ s)) W := fun W => run_string_add_sum W _ _ (by simp only [z1]; omega)
        have q1 : ∀ W, (Op.stringOp .add ((⟨#[40]⟩ ++ s) : ByteArray) ⟨#[41]⟩).run Tryd.prog W = .ok (.string ((⟨#[40]⟩ ++ s) ++ ⟨#[41]⟩)) W := fun W => run_string_add_sum W _ _ (by simp only [ByteArray.size_append, z1]; omega)
        have q2 : ∀ W, (Op.stringOp .add (((⟨#[40]⟩ ++ s) ++ ⟨#[41]⟩) : ByteArray) ⟨#[32, 45, 32]⟩).run Tryd.prog W = .ok (.string (((⟨#[40]⟩ ++ s) ++ ⟨#[41]⟩) ++ ⟨#[32, 45, 32]⟩)) W := fun W => run_string_add_sum W _ _ (by simp only [ByteArray.size_append, z1, z3]; omega)
        have q3 : ∀ W, (Op.stringOp .add ((((⟨#[40]⟩ ++ s) ++ ⟨#[41]⟩) ++ ⟨#[32, 45, 32]⟩) : ByteArray) ⟨#[40]⟩).run Tryd.prog W = .ok (.string ((((⟨#[40]⟩ ++ s) ++ ⟨#[41]⟩) ++ ⟨#[32, 45, 32]⟩) ++ ⟨#[40]⟩)) W := fun W => run_string_add_sum W _ _ (by simp only [ByteArray.size_append, z1, z3]; omega)
        have q4 : ∀ W, (Op.stringOp .add (((((⟨#[40]⟩ ++ s) ++ ⟨#[41]⟩) ++ ⟨#[32, 45, 32]⟩) ++ ⟨#[40]⟩) : ByteArray) t).run Tryd.prog W = .ok (.string (((((⟨#[40]⟩ ++ s) ++ ⟨#[41]⟩) ++ ⟨#[32, 45, 32]⟩) ++ ⟨#[40]⟩) ++ t)) W := fun W => run_string_add_sum W _ _ (by simp only [ByteArray.size_append, z1, z3]; omega)
        have q5 : ∀ W, (Op.stringOp .add ((((((⟨#[40]⟩ ++ s) ++ ⟨#[41]⟩) ++ ⟨#[32, 45, 32]⟩) ++ ⟨#[40]⟩) ++ t) : ByteArray) ⟨#[41]⟩).run Tryd.prog W = .ok (.string ((((((⟨#[40]⟩ ++ s) ++ ⟨#[41]⟩) ++ ⟨#[32, 45, 32]⟩) ++ ⟨#[40]⟩) ++ t) ++ ⟨#[41]⟩)) W := fun W => run_string_add_sum W _ _ (by simp only [ByteArray.size_append, z1, z3]; omega)
        have hJ := HJ.out ⟨#[32, 45, 32]⟩ 6 (by simp [mids]) rfl rfl (j := ((((((⟨#[40]⟩ ++ s) ++ ⟨#[41]⟩) ++ ⟨#[32, 45, 32]⟩) ++ ⟨#[40]⟩) ++ t) ++ ⟨#[41]⟩)) (by simp [ByteArray.data_append])
        have HE := Lib.hid (Expr_any (s := ((((((⟨#[40]⟩ ++ s) ++ ⟨#[41]⟩) ++ ⟨#[32, 45, 32]⟩) ++ ⟨#[40]⟩) ++ t) ++ ⟨#[41]⟩)) (by simp only [ByteArray.size_append, z1, z3]; omega) (HG.out.below HBw.out))
        clear g1 g2 HJ
        have HJJ := Lib.hid hJ
        clear hJ
        have ix : ∀ W, (Instr.index 55 (.agg #[.string ⟨#[124]⟩, .string ⟨#[38]⟩, .string ⟨#[32, 45, 32]⟩]) (.int .i64 2)).run Tryd.prog W = .ok (.string ⟨#[32, 45, 32]⟩) W := fun _ => by kernel_rfl
        go_wp2_with fail
        simp only [hmod]
        go_wp2_with fail
        clear q0 q1 q2 q3 q4 q5
        refine HE.out.mono ?_
        rintro e y3 ⟨v3, rfl, hv3, by3⟩
        clear HE
        have hi3 : IsNode y3 (exprA ((((((⟨#[40]⟩ ++ s) ++ ⟨#[41]⟩) ++ ⟨#[32, 45, 32]⟩) ++ ⟨#[40]⟩) ++ t) ++ ⟨#[41]⟩)).1 v3 := NodeS.is _ (Nat.le_refl _) hv3
        have hsz : (exprA ((((((⟨#[40]⟩ ++ s) ++ ⟨#[41]⟩) ++ ⟨#[32, 45, 32]⟩) ++ ⟨#[40]⟩) ++ t) ++ ⟨#[41]⟩)).2.2 = 0 → size (exprA ((((((⟨#[40]⟩ ++ s) ++ ⟨#[41]⟩) ++ ⟨#[32, 45, 32]⟩) ++ ⟨#[40]⟩) ++ t) ++ ⟨#[41]⟩)).1 ≤ 6000 := fun h => (expr_size h).2
        have HB3 := Lib.hid (And.intro (HBs.out.on by3) (HBw.out.trans (by3.mono HBw.out.size)))
        generalize exprA ((((((⟨#[40]⟩ ++ s) ++ ⟨#[41]⟩) ++ ⟨#[32, 45, 32]⟩) ++ ⟨#[40]⟩) ++ t) ++ ⟨#[41]⟩) = r3 at *
        obtain ⟨n3, ⟨l3, m3⟩, k3⟩ := r3
        simp only [plV] at *
        obtain ⟨o3, c3, us3, rfl, -⟩ := NodeS.open hv3
        clear hv3 by3 HBw HBs
        have HZ := Lib.hid (And.intro hi3 hsz)
        clear hi3 hsz
        have al : Below y3.heap.size y3 ((y3.alloc (.cells #[.int .i64 n3.kind, .string n3.ta, .string n3.tb, .slice o3 n3.kids.length c3] 25)).alloc (.cells #[.int .i64 l3, .int .i64 m3] tPl)) := ((Below.refl _ _).alloc (Nat.le_refl _) _).alloc (by simp) _
        have hbx : Box4 y3.heap.size n3.kind n3.ta n3.tb (.slice o3 n3.kids.length c3) ((y3.alloc (.cells #[.int .i64 n3.kind, .string n3.ta, .string n3.tb, .slice o3 n3.kids.length c3] 25)).alloc (.cells #[.int .i64 l3, .int .i64 m3] tPl)) :=
          (Box4.new y3 n3.kind n3.ta n3.tb (.slice o3 n3.kids.length c3)).on ((Below.refl _ _).alloc (Nat.le_refl _) _)
        have HT := Lib.hid (show Bs R1 y2.heap.size n1 n2 (.slice o1 n1.kids.length c1) (.slice o2 n2.kids.length c2) ((y3.alloc (.cells #[.int .i64 n3.kind, .string n3.ta, .string n3.tb, .slice o3 n3.kids.length c3] 25)).alloc (.cells #[.int .i64 l3, .int .i64 m3] tPl)) ∧ Below w.heap.size w ((y3.alloc (.cells #[.int .i64 n3.kind, .string n3.ta, .string n3.tb, .slice o3 n3.kids.length c3] 25)).alloc (.cells #[.int .i64 l3, .int .i64 m3] tPl)) ∧ Box4 y3.heap.size n3.kind n3.ta n3.tb (.slice o3 n3.kids.length c3) ((y3.alloc (.cells #[.int .i64 n3.kind, .string n3.ta, .string n3.tb, .slice o3 n3.kids.length c3] 25)).alloc (.cells #[.int .i64 l3, .int .i64 m3] tPl)) ∧ IsNode ((y3.alloc (.cells #[.int .i64 n3.kind, .string n3.ta, .string n3.tb, .slice o3 n3.kids.length c3] 25)).alloc (.cells #[.int .i64 l3, .int .i64 m3] tPl)) n3 (node4 n3.kind n3.ta n3.tb (.slice o3 n3.kids.length c3)) from ⟨HB3.out.1.on al, HB3.out.2.trans (al.mono HB3.out.2.size), hbx, HZ.out.1.below al⟩)
        clear hbx al HB3
        rcases HJJ.out with h12 | ⟨h0, hn3⟩
        · subst h12
          clear HJJ HZ
          go_wp2_with fail
          go_quiet (fail)
          go_wp2_with fail
          go_ret
          exact ⟨rfl, below_drewN HT.out.2.1 _⟩
        · subst h0
          have HN := Lib.hid hn3
          have HZZ := Lib.hid (show size n3 ≤ 100000 from Nat.le_trans (HZ.out.2 (by trivial)) (by decide))
          have jx : ∀ W, (Instr.index 56 (.agg #[.int .i64 4, .int .i64 5, .int .i64 6]) (.int .i64 2)).run Tryd.prog W = .ok (.int .i64 6) W := fun _ => by kernel_rfl
          clear HJJ hn3 HZ ix
          go_wp2_with fail
          generalize ((y3.alloc (.cells #[.int .i64 n3.kind, .string n3.ta, .string n3.tb, .slice o3 n3.kids.length c3] 25)).alloc (.cells #[.int .i64 l3, .int .i64 m3] tPl)) = A3 at *
          generalize y3.heap.size = R3 at *
          generalize y2.heap.size = R2 at *
          have HX := Lib.hid (show ∀ x, Order.Fresh A3.drew x → (x.cell? ⟨R1, 0, none⟩ = some (.int .i64 n1.kind) ∧ x.cell? ⟨R1, 1, none⟩ = some (.string n1.ta) ∧ x.cell? ⟨R1, 2, none⟩ = some (.string n1.tb) ∧ x.cell? ⟨R1, 3, none⟩ = some (.slice o1 n1.kids.length c1)) ∧ (x.cell? ⟨R2, 0, none⟩ = some (.int .i64 n2.kind) ∧ x.cell? ⟨R2, 1, none⟩ = some (.string n2.ta) ∧ x.cell? ⟨R2, 2, none⟩ = some (.string n2.tb) ∧ x.cell? ⟨R2, 3, none⟩ = some (.slice o2 n2.kids.length c2)) ∧ x.cell? ⟨R3, 0, none⟩ = some (.int .i64 n3.kind) ∧ x.cell? ⟨R3, 1, none⟩ = some (.string n3.ta) ∧ x.cell? ⟨R3, 2, none⟩ = some (.string n3.tb) ∧ x.cell? ⟨R3, 3, none⟩ = some (.slice o3 n3.kids.length c3) from
            fun x hx => ⟨(HT.out.1.b1.on ((Below.refl _ _).drew.trans hx)).cells, (HT.out.1.b2.on ((Below.refl _ _).drew.trans hx)).cells, (HT.out.2.2.1.on ((Below.refl _ _).drew.trans hx)).cells⟩)
          refine Order.region_begin (S := Order.Fresh A3.drew) (by kernel_rfl) ?_
          refine Order.reads_any (idx := [0, 1, 2, 3, 4, 5, 6, 7, 8, 9, 10, 11]) (by kernel_rfl) (Order.Fresh.refl _) (fun _ _ _ _ _ h => Order.noPanic_put h) 6 _ _ (by decide +kernel) ?_
          simp only [Order.pick, List.getElem?_toArray, List.getElem?_cons_zero, List.getElem?_cons_succ]
          repeat (first
            | (refine Order.reads_off (by rfl) ?_
               simp only [Act.put, List.setIfInBounds_toArray, List.set_cons_zero, List.set_cons_succ])
            | (apply Order.reads_on
               · rfl
               · intro x hx
                 first
                   | (go_simp; rfl)
                   | (obtain ⟨⟨i0, i1, i2, i3⟩, ⟨j0, j1, j2, j3⟩, m0, m1, m2, m3⟩ := HX.out x hx
                      go_simp; rfl)
               simp only [Act.put, List.setIfInBounds_toArray, List.set_cons_zero, List.set_cons_succ]))
          refine Order.reads_end ?_
          apply Order.acts_any (R := Order.Fresh) Order.Fresh.trans (i := 12)
          · rfl
          · decide +kernel
          · rfl
          unfold Oper.wp
          go_simp
          refine ⟨(Below.refl _ _).alloc (Nat.le_refl _) _, ?_⟩
          have hrow := heap_alloc_new A3.drew (.cells #[.int .i64 n1.kind, .string n1.ta, .string n1.tb, .slice o1 n1.kids.length c1, .int .i64 n2.kind, .string n2.ta, .string n2.tb, .slice o2 n2.kids.length c2] 25)
          have hb4 : Below A3.heap.size A3 (A3.drew.alloc (.cells #[.int .i64 n1.kind, .string n1.ta, .string n1.tb, .slice o1 n1.kids.length c1, .int .i64 n2.kind, .string n2.ta, .string n2.tb, .slice o2 n2.kids.length c2] 25)) := (Below.refl A3.heap.size A3).drew.alloc (by first | exact Nat.le_refl _ | simp) _
          have hnode : IsNode (A3.drew.alloc (.cells #[.int .i64 n1.kind, .string n1.ta, .string n1.tb, .slice o1 n1.kids.length c1, .int .i64 n2.kind, .string n2.ta, .string n2.tb, .slice o2 n2.kids.length c2] 25)) n3 (node4 6 none0 none0 (.slice (some ⟨A3.drew.heap.size, 0, none⟩) 2 2)) := by rw [HN.out]; exact is_two hrow (HT.out.1.i1.below hb4) (HT.out.1.i2.below hb4)
          have HC := Lib.hid (rsame_any _ n3 _ _ _ (Nat.le_refl _) HZZ.out (HT.out.2.2.2.below hb4) hnode)
          have HE := Lib.hid (HT.out.2.1.trans (hb4.mono HT.out.2.1.size))
          clear hrow hb4 hnode HT HX HN HZZ jx
          refine Order.reads_any (idx := [13]) (by kernel_rfl) (Order.Fresh.refl _) (fun _ _ _ _ _ h => Order.noPanic_put h) 4 _ _ (by decide +kernel) ?_
          simp only [Order.pick, List.getElem?_toArray, List.getElem?_cons_zero, List.getElem?_cons_succ]
          repeat (first
            | (refine Order.reads_off (by rfl) ?_
               simp only [Act.put, List.setIfInBounds_toArray, List.set_cons_zero, List.set_cons_succ])
            | (apply Order.reads_on
               · rfl
               · intro x hx
                 first
                   | (go_simp; rfl)
                   | (fail
                      go_simp; rfl)
               simp only [Act.put]))
          refine Order.reads_end ?_
          apply Order.acts_any (R := Order.Fresh) Order.Fresh.trans (i := 14)
          · rfl
          · decide +kernel
          · rfl
          unfold Oper.wp
          go_simp
          refine Calls.mono HC.out ?_
          rintro e w5 ⟨rfl, hb5⟩
          refine ⟨hb5, ?_⟩
          have HE2 := Lib.hid (HE.out.trans (hb5.mono HE.out.size))
          clear hb5 HE HC
          refine Order.reads_any (idx := [15, 16, 17]) (by kernel_rfl) (Order.Fresh.refl _) (fun _ _ _ _ _ h => Order.noPanic_put h) 0 _ _ (by decide +kernel) ?_
          simp only [Order.pick, List.getElem?_toArray, List.getElem?_cons_zero, List.getElem?_cons_succ]
          repeat (first
            | (refine Order.reads_off (by rfl) ?_
               simp only [Act.put, List.setIfInBounds_toArray, List.set_cons_zero, List.set_cons_succ])
            | (apply Order.reads_on
               · rfl
               · intro x hx
                 first
                   | (go_simp; rfl)
                   | (fail
                      go_simp; rfl)
               simp only [Act.put, List.setIfInBounds_toArray, List.set_cons_zero, List.set_cons_succ]))
          refine Order.reads_end ?_
          refine wpAnyH_done (by decide +kernel) ?_ _
          refine NoPanic.normal ?_
          go_wp2_with fail
          go_ret
          exact ⟨rfl, HE2.out⟩
    · go_wp2_with fail
      go_ret
      exact ⟨rfl, HBw.out⟩
  · go_wp2_with fail
    go_ret
    exact ⟨rfl, HBw.out⟩

theorem walk (s t : ByteArray) (c : Int) (w : World) (hs : s.size ≤ maxLen) (ht : t.size ≤ maxLen) (hz : (Lit.int .u8 c).wf = true) (hm : ∃ m, w.cell? ⟨2, 0, none⟩ = some (.int .i64 m)) {a0 a1 : Addr} (hg : Glob a0 a1 w) :
    Calls Tryd.prog 7 #[.string s, .string t, .int .u8 c] w fun e y => e = .returned (.bool true) ∧ Below w.heap.size w y := by
  by_cases g1 : 1000 < s.size
  · exact early s t c w hs ht hm hg (.inl g1)
  by_cases g2 : 1000 < t.size
  · exact early s t c w hs ht hm hg (.inr (.inl g2))
  cases hS : Lib.contains s.data.toList slash2.data.toList with
  | true => exact early s t c w hs ht hm hg (.inr (.inr (.inl hS)))
  | false =>
    cases hT : Lib.contains t.data.toList slash2.data.toList with
    | true => exact early s t c w hs ht hm hg (.inr (.inr (.inr hT)))
    | false => exact main s t c w (by omega) (by omega) hz hm hg hS hT
end LawG7Joint
end Go.Proofs.YtbphmaoomnocmaaDoor
