/-
  Layer 7 (grammar): the document's examples, which each statement asks first.
-/
import Derived.Test.YtbphmaoomnocmaaDoorGrExpr
import Derived.Test.YtbphmaoomnocmaaDoorMgPure
import Derived.Laws.StructEq
namespace Go.Proofs.YtbphmaoomnocmaaDoor
open Go.RowKit
namespace Gr
open Knot (Turns NewRow)
open Tr (Nd none0 node4 own_slice Box4 IsNode size)
open Sg (Tok kt plV)

theorem runes_of {s : ByteArray} {q : List Nat} (h : s.data.toList = q.map Nat.toUInt8) (hq : ∀ r ∈ q, r < 128) : Gly.runes s.data.toList = some q := by
  have := Sg.runes_low s.data.toList (by
    intro b hb
    rw [h, List.mem_map] at hb
    obtain ⟨r, hr, rfl⟩ := hb
    have := hq r hr
    simp; omega)
  rw [this, h]
  congr 1
  clear this h
  induction q with
  | nil => rfl
  | cons r q ih =>
    have hr := hq r (by simp)
    rw [List.map_cons, List.map_cons, ih fun x hx => hq x (by simp [hx])]
    congr 1
    simp; omega
theorem exprA_of {s : ByteArray} {q : List Nat} (h : s.data.toList = q.map Nat.toUInt8) (hq : ∀ r ∈ q, r < 128) (hl : q.length ≤ 3000) : exprA s = answer zeroN union (ansF q) := by
  rw [exprA, runes_of h hq, ansF_eq hl]
def exAs : ByteArray := ⟨#[97, 32, 124, 32, 98, 32, 38, 32, 99, 32, 45, 32, 100]⟩
def exBs : ByteArray := ⟨#[97, 32, 45, 32, 98, 32, 45, 32, 99]⟩
theorem exA_is : exprA exAs = answer zeroN union (ansF exA) := exprA_of (by decide) (by decide) (by decide)
theorem exB_is : exprA exBs = answer zeroN union (ansF exB) := exprA_of (by decide) (by decide) (by decide)
theorem pl_ne {a b : Nat × Nat} (h : a ≠ b) (W : World) : (binOp .eql 27 (.agg #[.int .i64 (a.1 : Nat), .int .i64 (a.2 : Nat)]) (.agg #[.int .i64 (b.1 : Nat), .int .i64 (b.2 : Nat)])).run Tryd.prog W = .ok (.bool false) W := by
  by_cases h1 : a.1 = b.1
  · have h2 : a.2 ≠ b.2 := fun h2 => h (Prod.ext h1 h2)
    have e1 : ((a.1 : Int) == (b.1 : Int)) = true := by simp [h1]
    have e2 : ((a.2 : Int) == (b.2 : Int)) = false := by simp; omega
    go_simp
  · have e1 : ((a.1 : Int) == (b.1 : Int)) = false := by simp; omega
    go_simp
theorem pl_17 (W : World) : (binOp .eql 27 (.agg #[.int .i64 1, .int .i64 7]) (.agg #[.int .i64 1, .int .i64 7])).run Tryd.prog W = .ok (.bool true) W := by
  go_simp
theorem pl_19 (W : World) : (binOp .eql 27 (.agg #[.int .i64 1, .int .i64 9]) (.agg #[.int .i64 1, .int .i64 9])).run Tryd.prog W = .ok (.bool true) W := by
  go_simp
set_option maxHeartbeats 4000000 in
set_option maxRecDepth 100000 in
theorem awake_any {a0 a1 : Addr} {w : World} (hg : Glob a0 a1 w) : Calls Tryd.prog 8 #[] w fun e y => e = .returned (.bool true) ∧ Below w.heap.size w y := by
  have HC1 := Lib.hid (Expr_any (s := exAs) (by decide) hg)
  have HC2 := Lib.hid (fun y (hb : Below w.heap.size w y) => Expr_any (s := exBs) (by decide) (hg.below hb))
  rw [exA_is] at HC1
  rw [exB_is] at HC2
  have HK := Lib.hid exA_kid
  have hT1 := exA_told
  have hT2 := exB_told
  generalize answer zeroN union (ansF exA) = r1 at *
  generalize answer zeroN union (ansF exB) = r2 at *
  obtain ⟨n, p1, k1⟩ := r1
  obtain ⟨m, p2, k2⟩ := r2
  obtain ⟨hc1, hp1, hk1, -, -, hl1⟩ := hT1
  obtain ⟨hc2, hp2, hk2, -, -, -⟩ := hT2
  simp only at *
  subst hc1 hp1 hc2 hp2
  rw [show plV (0, 0) = .agg #[.int .i64 0, .int .i64 0] from rfl] at HC1
  rw [show plV (1, 7) = .agg #[.int .i64 1, .int .i64 7] from rfl] at HC2
  have P17 := pl_17
  cases n with
  | mk nk na nb nl =>
  have hlen : nl.length = 2 := hl1
  have hk1' : nk = 4 := hk1
  subst hk1'
  obtain ⟨k0, k1, hkids⟩ : ∃ k0 k1, nl = [k0, k1] := by
    match nl, hlen with
    | [a, b], _ => exact ⟨a, b, rfl⟩
  subst hkids
  have hk5 : k1.kind = 5 := by
    have := HK.out
    simp only [Nd.kids, List.map_cons, List.map_nil, List.cons.injEq] at this
    exact this.2.1
  clear hg hl1 hlen HK hk1 hk2
  go_enter Tryd.func8, Tryd.ntmps8
  go_wp2_with fail
  refine HC1.out.mono ?_
  rintro e y ⟨v, rfl, hv, hby⟩
  have hn : IsNode y (.mk 4 na nb [k0, k1]) v := NodeS.is _ (Nat.le_refl _) hv
  obtain ⟨ao, cap, vs, rfl, -, hks⟩ := hn.kids
  obtain ⟨g, q, sa, sc, hix, hgl, c0', -⟩ := hks.at cap (i := 1) (by simp [Nd.kids])
  have c0 : y.cell? ⟨g, q, none⟩ = some (.int .i64 k1.kind) := c0'
  rw [hk5] at c0
  have hix' : ∀ W, (Instr.indexAt 23 (.slice ao 2 cap) (.int .i64 1)).run Tryd.prog W = .ok (.pointer (some ⟨g, q, none⟩)) W := hix
  have b1 : Below y.heap.size y ((y.alloc (.cells #[.int .i64 4, .string na, .string nb, .slice ao 2 cap] 25)).alloc (.cells #[.int .i64 0, .int .i64 0] tPl)) := ((Below.refl _ _).alloc (Nat.le_refl _) _).alloc (by simp) _
  have hb1 := hby.trans (b1.mono hby.size)
  have HC := Lib.hid (HC2.out _ hb1)
  have s1 : ((y.alloc (.cells #[.int .i64 4, .string na, .string nb, .slice ao 2 cap] 25)).alloc (.cells #[.int .i64 0, .int .i64 0] tPl)).heap.size = y.heap.size + 1 + 1 := by simp
  have n1 : ((y.alloc (.cells #[.int .i64 4, .string na, .string nb, .slice ao 2 cap] 25)).alloc (.cells #[.int .i64 0, .int .i64 0] tPl)).heap[y.heap.size]? = some (.cells #[.int .i64 4, .string na, .string nb, .slice ao 2 cap] 25 (0, 0)) :=
    (((Below.refl (y.heap.size + 1) (y.alloc (.cells #[.int .i64 4, .string na, .string nb, .slice ao 2 cap] 25))).alloc (by simp) (.cells #[.int .i64 0, .int .i64 0] tPl)).block y.heap.size (by omega)).trans (heap_alloc_new y _)
  have k1c := (b1.cell (p := ⟨g, q, none⟩) hgl).trans c0
  have H1 := Lib.hid (And.intro hb1 (And.intro n1 (And.intro s1 (And.intro k1c hgl))))
  clear hn hv hks hby hix b1 hb1 s1 n1 k1c HC1 HC2 hk5 c0 c0'
  unfold node4
  simp only [Nd.kind, Nd.ta, Nd.tb, Nd.kids, List.length_cons, List.length_nil]
  go_wp2_with fail
  generalize (y.alloc (.cells #[.int .i64 4, .string na, .string nb, .slice ao 2 cap] 25)).alloc (.cells #[.int .i64 0, .int .i64 0] tPl) = w1 at *
  refine HC.out.mono ?_
  rintro e z ⟨v, rfl, hv, hbz⟩
  obtain ⟨no, nc, us, rfl, -⟩ := NodeS.open hv
  have b2 : Below z.heap.size z ((z.alloc (.cells #[.int .i64 m.kind, .string m.ta, .string m.tb, .slice no m.kids.length nc] 25)).alloc (.cells #[.int .i64 1, .int .i64 7] tPl)) := ((Below.refl _ _).alloc (Nat.le_refl _) _).alloc (by simp) _
  have hb2 := hbz.trans (b2.mono hbz.size)
  have hk := Box4.cells ((hb2.block y.heap.size (by have := H1.out.2.2.1; omega)).trans H1.out.2.1 : Box4 y.heap.size 4 na nb (.slice ao 2 cap) _)
  obtain ⟨d0, d1, d2, d3⟩ := hk
  have d4 := (hb2.cell (p := ⟨g, q, none⟩) (by have := H1.out.2.2.1; have := H1.out.2.2.2.2; simp only; omega)).trans H1.out.2.2.2.1
  have HB := Lib.hid (H1.out.1.trans (hb2.mono H1.out.1.size))
  clear hv hbz b2 hb2 H1 HC
  go_wp2_with fail
  go_ret
  exact ⟨rfl, HB.out⟩
end Gr
end Go.Proofs.YtbphmaoomnocmaaDoor
