/-
  Layer 7 (grammar): the law's SameConfig, walked: two configurations that lie in memory and hold the same are the same.
-/
import Derived.Test.YtopncohhagebbaaDoorGrSame
import Derived.BigQuiet
namespace Go.Proofs.YtopncohhagebbaaDoor
open Go.RowKit
namespace Gr
open Tr (Nd IsNode RowAt Box4 node4 size)
open Knot (Turns NewRow)

/-- No expression is too great. -/
def Fit (l : List Ty) : Prop := ∀ t ∈ l, ∀ r ∈ t.rels, size r.expr ≤ 100000
/-- Two boxes, one made behind the other. -/
theorem two_boxes (w : World) (c1 c2 : Array Value) (T U : TypeId) : Below w.heap.size w ((w.alloc (.cells c1 T)).alloc (.cells c2 U)) ∧
    ((w.alloc (.cells c1 T)).alloc (.cells c2 U)).heap[w.heap.size]? = some (.cells c1 T (0, 0)) ∧ ((w.alloc (.cells c1 T)).alloc (.cells c2 U)).heap[w.heap.size + 1]? = some (.cells c2 U (0, 0)) ∧ ((w.alloc (.cells c1 T)).alloc (.cells c2 U)).heap.size = w.heap.size + 2 := by
  have s1 : (w.alloc (.cells c1 T)).heap.size = w.heap.size + 1 := by simp
  have n2 := heap_alloc_new (w.alloc (.cells c1 T)) (.cells c2 U)
  rw [s1] at n2
  exact ⟨((Below.refl _ _).alloc (Nat.le_refl _) _).alloc (by simp) _, (((Below.refl (w.heap.size + 1) (w.alloc (.cells c1 T))).alloc (by simp) (.cells c2 U)).block w.heap.size (by omega)).trans (heap_alloc_new w _), n2, by simp⟩
theorem box1 {x : World} {R : Nat} {T : TypeId} {a : Value} (h : x.heap[R]? = some (.cells #[a] T (0, 0))) : x.cell? ⟨R, 0, none⟩ = some a := by rw [Lib.cell_of_heap h]; rfl
theorem box2 {x : World} {R : Nat} {T : TypeId} {a b : Value} (h : x.heap[R]? = some (.cells #[a, b] T (0, 0))) : x.cell? ⟨R, 0, none⟩ = some a ∧ x.cell? ⟨R, 1, none⟩ = some b := ⟨by rw [Lib.cell_of_heap h]; rfl, by rw [Lib.cell_of_heap h]; rfl⟩
theorem box6 {x : World} {R : Nat} {T : TypeId} {a b c d e f : Value} (h : x.heap[R]? = some (.cells #[a, b, c, d, e, f] T (0, 0))) :
    x.cell? ⟨R, 0, none⟩ = some a ∧ x.cell? ⟨R, 1, none⟩ = some b ∧ x.cell? ⟨R, 2, none⟩ = some c ∧ x.cell? ⟨R, 3, none⟩ = some d ∧ x.cell? ⟨R, 4, none⟩ = some e ∧ x.cell? ⟨R, 5, none⟩ = some f :=
  ⟨by rw [Lib.cell_of_heap h]; rfl, by rw [Lib.cell_of_heap h]; rfl, by rw [Lib.cell_of_heap h]; rfl, by rw [Lib.cell_of_heap h]; rfl, by rw [Lib.cell_of_heap h]; rfl, by rw [Lib.cell_of_heap h]; rfl⟩
theorem al_same (a : Al) (W : World) : (binOp .neq 59 (alV a) (alV a)).run Tryd.prog W = .ok (.bool false) W := by
  go_simp

set_option maxHeartbeats 16000000 in
set_option maxRecDepth 100000 in
theorem samecfg_any {l : List Ty} {v u : Value} {w : World} (hf : Fit l) (hv : IsCf w l v) (hu : IsCf w l u) :
    Calls Tryd.prog 7 #[v, u] w fun e x => e = .returned (.bool true) ∧ Below w.heap.size w x := by
  obtain ⟨ao, cap, us, rfl, h1⟩ := hv
  obtain ⟨bo, dap, vs, rfl, h2⟩ := hu
  obtain ⟨q1, q2, q3, q4⟩ := two_boxes w #[.slice ao l.length cap] #[.slice bo l.length dap] tCf tCf
  have HF := Lib.hid hf
  have HQ := Lib.hid (And.intro q1 (And.intro q2 (And.intro q3 q4)))
  have H12 := Lib.hid (And.intro (h1.on q1 fun _ _ h => h.below q1) (h2.on q1 fun _ _ h => h.below q1))
  clear h1 h2 hf q1 q2 q3 q4
  go_enter Tryd.func7, Tryd.ntmps7
  go_wp2_with fail
  generalize (w.alloc (.cells #[.slice ao l.length cap] tCf)).alloc (.cells #[.slice bo l.length dap] tCf) = w1 at *
  obtain ⟨-, q2, q3, q4⟩ := HQ.out
  have c1 := box1 q2
  have c2 := box1 q3
  clear q2 q3 q4
  go_wp2_with fail
  go_loopw [22] (fun i wr => ∃ j : Nat, j ≤ l.length ∧ i = .int .i64 j ∧ Below w1.heap.size w1 wr) (fun i _ => l.length - (intOf i).toNat)
  case atStart => exact ⟨0, by omega, rfl, Below.refl _ _⟩
  case round =>
    obtain ⟨j, hj, rfl, hb⟩ := hrel
    have hb0 := HQ.out.1.trans (hb.mono HQ.out.1.size)
    clear c1 c2
    by_cases hlt : j < l.length
    · obtain ⟨g, q, ro, rc, rs, ix1, hg, d0, d1, hl1⟩ := ty_at (H12.out.1.on hb fun _ _ h => h.below hb) cap hlt
      obtain ⟨g', q', ro', rc', rs', ix2, hg', d0', d1', hl2⟩ := ty_at (H12.out.2.on hb fun _ _ h => h.below hb) dap hlt
      have hEX := HF.out l[j] (List.getElem_mem hlt)
      generalize l[j] = t at *
      obtain ⟨p1, p2, p3, p4⟩ := two_boxes wr #[.string t.name, .slice ro t.rels.length rc] #[.string t.name, .slice ro' t.rels.length rc'] tTy tTy
      have b1 : Below wr.heap.size wr (wr.alloc (.cells #[.string t.name, .slice ro t.rels.length rc] tTy)) := (Below.refl _ _).alloc (Nat.le_refl _) _
      have e1 := box1 ((hb.block _ (by have := HQ.out.2.2.2; omega)).trans HQ.out.2.1)
      have e2 := box1 ((hb.block _ (by have := HQ.out.2.2.2; omega)).trans HQ.out.2.2.1)
      have hsz := hb.size
      have e2' := (b1.cell (p := ⟨w.heap.size + 1, 0, none⟩) (by have := HQ.out.2.2.2; simp only; omega)).trans e2
      have f0 := (b1.cell (p := ⟨g', q', none⟩) hg').trans d0'
      have f1 := (b1.cell (p := ⟨g', q' + 1, none⟩) hg').trans d1'
      have hL1 := hl1.on p1 fun _ _ h => h.below p1
      have hL2 := hl2.on p1 fun _ _ h => h.below p1
      have hbw := hb.trans (p1.mono hb.size)
      have HB := Lib.hid (And.intro hbw (And.intro p2 (And.intro p3 p4)))
      have HL := Lib.hid (And.intro hL1 hL2)
      have HAE := Lib.hid hEX
      clear hl1 hl2 p1 p2 p3 p4 b1 hL1 hL2 hbw hEX hb hb0 hsz e2 d0' d1'
      go_wp2_with fail
      generalize (wr.alloc (.cells #[.string t.name, .slice ro t.rels.length rc] tTy)).alloc (.cells #[.string t.name, .slice ro' t.rels.length rc'] tTy) = w2 at *
      generalize wr.heap.size = R at *
      clear e1 e2' f0 f1 d0 d1 ix1 ix2 hg hg'
      go_loopw [49] (fun i x => ∃ k : Nat, k ≤ t.rels.length ∧ i = .int .i64 k ∧ Below w2.heap.size w2 x) (fun i _ => t.rels.length - (intOf i).toNat)
      case atStart => exact ⟨0, by omega, rfl, Below.refl _ _⟩
      case round =>
        obtain ⟨k, hk, rfl, hb⟩ := hrel
        by_cases hkt : k < t.rels.length
        · obtain ⟨g2, q2, so, sc, no, nc, ss, jx1, hg2, d0, d1, d2, d3, d4, d5, hl1, hn1⟩ := rl_at (HL.out.1.on hb fun _ _ h => h.below hb) rc hkt
          obtain ⟨g2', q2', so', sc', no', nc', ss', jx2, hg2', d0', d1', d2', d3', d4', d5', hl2, hn2⟩ := rl_at (HL.out.2.on hb fun _ _ h => h.below hb) rc' hkt
          have hEX := HAE.out t.rels[k] (List.getElem_mem hkt)
          generalize t.rels[k] = r at *
          obtain ⟨p1, p2, p3, p4⟩ := two_boxes wr #[.string r.name, .slice so r.allow.length sc, .int .i64 r.expr.kind, .string r.expr.ta, .string r.expr.tb, .slice no r.expr.kids.length nc] #[.string r.name, .slice so' r.allow.length sc', .int .i64 r.expr.kind, .string r.expr.ta, .string r.expr.tb, .slice no' r.expr.kids.length nc'] tRl tRl
          have b1 : Below wr.heap.size wr (wr.alloc (.cells #[.string r.name, .slice so r.allow.length sc, .int .i64 r.expr.kind, .string r.expr.ta, .string r.expr.tb, .slice no r.expr.kids.length nc] tRl)) := (Below.refl _ _).alloc (Nat.le_refl _) _
          obtain ⟨-, e1⟩ := box2 ((hb.block _ (by have := HB.out.2.2.2; omega)).trans HB.out.2.1)
          obtain ⟨-, e2⟩ := box2 ((hb.block _ (by have := HB.out.2.2.2; omega)).trans HB.out.2.2.1)
          have hsz := hb.size
          have e2' := (b1.cell (p := ⟨R + 1, 1, none⟩) (by have := HB.out.2.2.2; simp only; omega)).trans e2
          have f0 := (b1.cell (p := ⟨g2', q2', none⟩) hg2').trans d0'
          have f1 := (b1.cell (p := ⟨g2', q2' + 1, none⟩) hg2').trans d1'
          have f2 := (b1.cell (p := ⟨g2', q2' + 2, none⟩) hg2').trans d2'
          have f3 := (b1.cell (p := ⟨g2', q2' + 3, none⟩) hg2').trans d3'
          have f4 := (b1.cell (p := ⟨g2', q2' + 4, none⟩) hg2').trans d4'
          have f5 := (b1.cell (p := ⟨g2', q2' + 5, none⟩) hg2').trans d5'
          have hbw := hb.trans (p1.mono hb.size)
          have HC := Lib.hid (And.intro hbw (And.intro p2 (And.intro p3 p4)))
          have HM := Lib.hid (And.intro (hl1.on p1 fun _ _ h => h) (hl2.on p1 fun _ _ h => h))
          have hN1 := hn1.below p1
          have hN2 := hn2.below p1
          have HS := Lib.hid (rsame_any _ r.expr _ _ _ (Nat.le_refl _) hEX hN1 hN2)
          have E1 := box6 p2
          have E2 := box6 p3
          clear hl1 hl2 hn1 hn2 hN1 hN2 p1 p2 p3 p4 b1 hbw hEX hb hsz e2 d0' d1' d2' d3' d4' d5'
          obtain ⟨a0, a1, a2, a3, a4, a5⟩ := E1
          obtain ⟨c0, c1, c2, c3, c4, c5⟩ := E2
          go_wp2_with fail
          refine HS.out.mono ?_
          rintro e y ⟨rfl, hy⟩
          have hA := box6 ((hy.block _ (by have := HC.out.2.2.2; omega)).trans HC.out.2.1)
          have hD := box6 ((hy.block _ (by have := HC.out.2.2.2; omega)).trans HC.out.2.2.1)
          have HC2 := Lib.hid (And.intro (HC.out.1.trans (hy.mono HC.out.1.size)) (And.intro ((hy.block _ (by have := HC.out.2.2.2; omega)).trans HC.out.2.1) ((hy.block _ (by have := HC.out.2.2.2; omega)).trans HC.out.2.2.1)))
          have HM2 := Lib.hid (And.intro (HM.out.1.on hy fun _ _ h => h) (HM.out.2.on hy fun _ _ h => h))
          clear a0 a1 a2 a3 a4 a5 c0 c1 c2 c3 c4 c5 HC HM HS e1 e2' f0 f1 f2 f3 f4 f5 d0 d1 d2 d3 d4 d5 hg2 hg2' jx1 jx2 hy
          generalize wr.heap.size = R2 at *
          obtain ⟨-, a1, -, -, -, -⟩ := hA
          obtain ⟨-, c1, -, -, -, -⟩ := hD
          go_wp2_with fail
          go_loopw [84] (fun i x => ∃ m : Nat, m ≤ r.allow.length ∧ i = .int .i64 m ∧ Below y.heap.size y x) (fun i _ => r.allow.length - (intOf i).toNat)
          case atStart => exact ⟨0, by omega, rfl, Below.refl _ _⟩
          case round =>
            obtain ⟨m, hm, rfl, hb⟩ := hrel
            clear a1 c1
            by_cases hmt : m < r.allow.length
            · obtain ⟨g3, q3, kx1, hg3, a0, a1, a2⟩ := al_at (HM2.out.1.on hb fun _ _ h => h) sc hmt
              obtain ⟨g3', q3', kx2, hg3', c0, c1, c2⟩ := al_at (HM2.out.2.on hb fun _ _ h => h) sc' hmt
              generalize r.allow[m] = al at *
              have hA := box6 ((hb.block _ (Array.getElem?_eq_some_iff.1 HC2.out.2.1).1).trans HC2.out.2.1)
              have hD := box6 ((hb.block _ (Array.getElem?_eq_some_iff.1 HC2.out.2.2).1).trans HC2.out.2.2)
              obtain ⟨-, b1, -, -, -, -⟩ := hA
              obtain ⟨-, d1, -, -, -, -⟩ := hD
              have HX := Lib.hid hb
              have hsame := al_same al
              clear hb hg3 hg3'
              have hAL : r.allow.length ≤ 9223372036854775807 := HM2.out.1.big
              go_wp2_with fail
              go_quiet (fail)
              go_wp2_with fail
              go_roundw
              case rel => exact ⟨m + 1, by omega, by go_num, below_drewN HX.out _⟩
              case measure => simp [intOf]; omega
            · have hRL : t.rels.length ≤ 9223372036854775807 := HL.out.1.big
              go_wp2_with fail
              go_roundw
              case rel => exact ⟨k + 1, by omega, by go_num, HC2.out.1.trans (hb.mono HC2.out.1.size)⟩
              case measure => simp [intOf]; omega
        · have hLL : l.length ≤ 9223372036854775807 := H12.out.1.big
          go_wp2_with fail
          go_roundw
          case rel => exact ⟨j + 1, by omega, by go_num, HB.out.1.trans (hb.mono HB.out.1.size)⟩
          case measure => simp [intOf]; omega
    · go_wp2_with fail
      go_ret
      exact ⟨rfl, hb0⟩
end Gr
end Go.Proofs.YtopncohhagebbaaDoor
