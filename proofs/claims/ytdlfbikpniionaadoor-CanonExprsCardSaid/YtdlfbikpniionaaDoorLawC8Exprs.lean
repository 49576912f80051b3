/-
  The statement CanonExprs, walked at every node.
-/
import Derived.Test.YtdlfbikpniionaaDoorCnAwake
import Derived.Test.YtdlfbikpniionaaDoorCnRef
import Derived.Test.YtdlfbikpniionaaDoorGrExpr
namespace Go.Proofs.YtdlfbikpniionaaDoor
open Go.RowKit
namespace LawC8Exprs
open Tr (Nd IsNode Box4 node4 none0 good size depth errOf fresh_one two)
open Gr (bs bs_list bs_size prN exprA NodeS tPl Glob few_any rfits_any rsame_any)
open Sg (plV)
open Cn (awake_any Expr_any rexpr_any)

set_option maxHeartbeats 4000000 in
set_option maxRecDepth 100000 in
theorem far (n : Nd) (v : Value) (w : World) (hn : IsNode w n v) (hz : ¬ size n ≤ 300) :
    Calls Tryd.prog 3 #[v] w fun e x => e = .returned (.bool true) ∧ Below w.heap.size w x := by
  obtain ⟨ao, cap, vs, rfl, -, -⟩ := hn.kids
  have HA := Lib.hid (fun x => awake_any x)
  have HF := Lib.hid (show ∀ x, Below w.heap.size w x → Calls Tryd.prog 5 #[node4 n.kind n.ta n.tb (.slice ao n.kids.length cap)] x fun e y => e = .returned (.bool false) ∧ Below x.heap.size x y from fun x hx => by
    have := few_any n _ x (hn.below hx)
    rwa [decide_eq_false hz] at this)
  have H0 := Lib.hid (And.intro (fresh_one w (.cells #[.int .i64 n.kind, .string n.ta, .string n.tb, .slice ao n.kids.length cap] 24)) (Box4.new w n.kind n.ta n.tb (.slice ao n.kids.length cap)))
  clear hn hz
  go_enter Tryd.func3, Tryd.ntmps3
  go_wp2_with fail
  refine (HA.out _).mono ?_
  rintro e x ⟨rfl, hx⟩
  have H1 := Lib.hid (And.intro (H0.out.1.trans (hx.mono H0.out.1.size)) (H0.out.2.on hx))
  obtain ⟨b0, b1, b2, b3⟩ := H1.out.2.cells
  clear hx
  go_wp2_with fail
  refine (HF.out _ H1.out.1).mono ?_
  rintro e y ⟨rfl, hy⟩
  have H2 := Lib.hid (H1.out.1.trans (hy.mono H1.out.1.size))
  clear hy
  go_wp2_with fail
  refine (HA.out _).mono ?_
  rintro e z ⟨rfl, hz⟩
  go_wp2_with fail
  go_ret
  exact ⟨rfl, H2.out.trans (hz.mono H2.out.size)⟩

set_option maxHeartbeats 8000000 in
set_option maxRecDepth 100000 in
theorem near (n : Nd) (v : Value) (w : World) (hn : IsNode w n v) (hz : size n ≤ 300) {a0 a1 : Addr} (hg : Glob a0 a1 w) :
    Calls Tryd.prog 3 #[v] w fun e x => e = .returned (.bool true) ∧ Below w.heap.size w x := by
  obtain ⟨ao, cap, vs, rfl, -, -⟩ := hn.kids
  have HA := Lib.hid (fun x => awake_any x)
  have HF := Lib.hid (show ∀ x, Below w.heap.size w x → Calls Tryd.prog 5 #[node4 n.kind n.ta n.tb (.slice ao n.kids.length cap)] x fun e y => e = .returned (.bool true) ∧ Below x.heap.size x y from fun x hx => by
    have := few_any n _ x (hn.below hx)
    rwa [decide_eq_true hz] at this)
  have HC := Lib.hid (fun x (hb : Below w.heap.size w x) => Expr_any n _ x (hn.below hb))
  have HT := Lib.hid (fun x (hb : Below w.heap.size w x) => rfits_any n _ x (by omega) (hn.below hb))
  have HN := Lib.hid hn
  have HG := Lib.hid hg
  have hce := Tr.err_cases n
  have H0 := Lib.hid (And.intro (fresh_one w (.cells #[.int .i64 n.kind, .string n.ta, .string n.tb, .slice ao n.kids.length cap] 24)) (Box4.new w n.kind n.ta n.tb (.slice ao n.kids.length cap)))
  clear hn hz hg
  go_enter Tryd.func3, Tryd.ntmps3
  go_wp2_with fail
  refine (HA.out _).mono ?_
  rintro e x1 ⟨rfl, hx⟩
  have H1 := Lib.hid (And.intro (H0.out.1.trans (hx.mono H0.out.1.size)) (H0.out.2.on hx))
  obtain ⟨b0, b1, b2, b3⟩ := H1.out.2.cells
  clear hx H0 HA
  go_wp2_with fail
  refine (HF.out _ H1.out.1).mono ?_
  rintro e x2 ⟨rfl, hx⟩
  have H2 := Lib.hid (And.intro (H1.out.1.trans (hx.mono H1.out.1.size)) (H1.out.2.on hx))
  clear hx H1 HF b0 b1 b2 b3
  obtain ⟨b0, b1, b2, b3⟩ := H2.out.2.cells
  go_wp2_with fail
  refine (HC.out _ H2.out.1).mono ?_
  rintro e x3 ⟨hx, h⟩
  have H3 := Lib.hid (And.intro (H2.out.1.trans (hx.mono H2.out.1.size)) (H2.out.2.on hx))
  clear hx H2 HC b0 b1 b2 b3
  obtain ⟨b0, b1, b2, b3⟩ := H3.out.2.cells
  rcases h with ⟨he, rfl⟩ | ⟨he, rfl⟩
  · have HE := Lib.hid he
    have hne : (errOf n != 0) = true := by simpa using he
    clear hce he
    go_wp2_with fail
    refine (HT.out _ H3.out.1).mono ?_
    rintro e x4 ⟨rfl, hx⟩
    have H4 := Lib.hid (H3.out.1.trans (hx.mono H3.out.1.size))
    clear hx
    go_wp2_with fail
    go_ret
    exact ⟨rfl, H4.out⟩
  · have hgs : good n = true ∧ size n ≤ 24 ∧ depth n ≤ 8 := by
      rcases hce with ⟨h, -⟩ | ⟨h, -⟩ | ⟨h, -⟩ | ⟨-, h1, h2, h3⟩
      · omega
      · omega
      · omega
      · exact ⟨h1, h2, h3⟩
    have hlen : (prN n).length ≤ 2000 := by have := (Gr.node_low (size n) n (Nat.le_refl _) hgs.1).2; omega
    have hread := Gr.print_read (s := bs (prN n)) hgs.1 hgs.2.1 hgs.2.2 rfl
    have HX := Lib.hid (fun x (hb : Below w.heap.size w x) => Gr.Expr_any (s := bs (prN n)) (by rw [bs_size]; omega) (HG.out.below hb))
    have HR := Lib.hid (fun x (hb : Below w.heap.size w x) => rexpr_any (size n) n _ x (Nat.le_refl _) hgs.2.1 hgs.1 (HN.out.below hb))
    have HS := Lib.hid (fun x u (hb : Below w.heap.size w x) (hu : IsNode x n u) => rsame_any (size n) n u _ x (Nat.le_refl _) (by omega) hu (HN.out.below hb))
    have hbe : ((bs (prN n)).toList == (bs (prN n)).toList) = true := beq_self_eq_true _
    have HB := Lib.hid hbe
    rw [he] at HT
    have HQ := Lib.hid (And.intro hread.1 hread.2)
    clear hce he hgs hlen hread HN HG hbe
    go_wp2_with fail
    refine (HT.out _ H3.out.1).mono ?_
    rintro e x4 ⟨rfl, hx⟩
    have H4 := Lib.hid (And.intro (H3.out.1.trans (hx.mono H3.out.1.size)) (H3.out.2.on hx))
    clear hx H3 HT b0 b1 b2 b3
    obtain ⟨b0, b1, b2, b3⟩ := H4.out.2.cells
    go_wp2_with fail
    refine (HX.out _ H4.out.1).mono ?_
    rintro e x5 ⟨v1, rfl, hv1, hx⟩
    have hi1 : IsNode x5 (exprA (bs (prN n))).1 v1 := NodeS.is _ (Nat.le_refl _) hv1
    rw [HQ.out.2] at hi1
    rw [HQ.out.1]
    clear hv1
    generalize (exprA (bs (prN n))).2.1 = pp at *
    obtain ⟨pl, pm⟩ := pp
    simp only [plV]
    obtain ⟨o1, c1, us1, rfl, -, -⟩ := hi1.kids
    have H5 := Lib.hid (And.intro (H4.out.1.trans (hx.mono H4.out.1.size)) (And.intro (H4.out.2.on hx) hi1))
    clear hx hi1 H4 b0 b1 b2 b3 HX
    have al := (fresh_one x5 (.cells #[.int .i64 n.kind, .string n.ta, .string n.tb, .slice o1 n.kids.length c1] 24)).alloc (by simp) (.cells #[.int .i64 pl, .int .i64 pm] tPl)
    have hbx := (Box4.new x5 n.kind n.ta n.tb (.slice o1 n.kids.length c1)).on (fresh_one _ (.cells #[.int .i64 pl, .int .i64 pm] tPl))
    have H6 := Lib.hid (And.intro (H5.out.1.trans (al.mono H5.out.1.size)) (And.intro (H5.out.2.1.on al) (And.intro (H5.out.2.2.below al) hbx)))
    clear al hbx H5
    obtain ⟨b0, b1, b2, b3⟩ := H6.out.2.1.cells
    obtain ⟨d0, d1, d2, d3⟩ := H6.out.2.2.2.cells
    go_wp2_with fail
    refine (HR.out _ H6.out.1).mono ?_
    rintro e x6 ⟨rfl, hx⟩
    have H7 := Lib.hid (And.intro (H6.out.1.trans (hx.mono H6.out.1.size)) (And.intro (H6.out.2.1.on hx) (And.intro (H6.out.2.2.1.below hx) (H6.out.2.2.2.on hx))))
    clear hx H6 b0 b1 b2 b3 d0 d1 d2 d3 HR
    obtain ⟨b0, b1, b2, b3⟩ := H7.out.2.1.cells
    obtain ⟨d0, d1, d2, d3⟩ := H7.out.2.2.2.cells
    have hbe := HB.out
    go_wp2_with fail
    refine (HS.out _ _ H7.out.1 H7.out.2.2.1).mono ?_
    rintro e x7 ⟨rfl, hx⟩
    have H8 := Lib.hid (H7.out.1.trans (hx.mono H7.out.1.size))
    clear hx H7
    go_wp2_with fail
    go_ret
    exact ⟨rfl, H8.out⟩
/-- The statement's walk. -/
theorem walk (n : Nd) (v : Value) (w : World) (hn : IsNode w n v) {a0 a1 : Addr} (hg : Glob a0 a1 w) :
    Calls Tryd.prog 3 #[v] w fun e x => e = .returned (.bool true) ∧ Below w.heap.size w x := by
  by_cases hz : size n ≤ 300
  · exact near n v w hn hz hg
  · exact far n v w hn hz
end LawC8Exprs
end Go.Proofs.YtdlfbikpniionaaDoor
