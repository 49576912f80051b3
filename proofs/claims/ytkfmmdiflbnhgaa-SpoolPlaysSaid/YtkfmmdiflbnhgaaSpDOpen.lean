/-
  Layer 13's document: its Open, where it opens.
-/
import Derived.Test.YtkfmmdiflbnhgaaSpDRec
import Derived.Test.YtkfmmdiflbnhgaaSgpC
import Derived.Test.YtkfmmdiflbnhgaaSgpE
namespace Go.Proofs.Ytkfmmdiflbnhgaa
set_option maxRecDepth 100000
open Go.RowKit
open Knot (Turns NewRow)
open Ta (IsBytes Stay sec nul tSec Tray)
open Tr (own_turn own_below own_slice)
namespace Sp
theorem rdS_round (t : Tray (List UInt8)) (s : S) (k : Nat) : rdS t s (k + s.count) = rdS t s k := by
  unfold rdS
  rw [Nat.add_mod_right]
section
variable {w x : World} {A : Nat} {s : S}
theorem DsB.set (h : DsB w A s) (j : Nat) (v : Value) : (w.setCell ⟨A, j, none⟩ v).heap[A]? = some (.cells ((dsC s).setIfInBounds j v) tDS (0, 0)) := heap_setCell_same w A j _ tDS v h
theorem DsB.tailIn (h : DsB x A s) : Sp.tailIn x A = s.tail := by
  unfold Sp.tailIn
  rw [h.cells.2.2.2.2.1]
  rfl
end
/-- All six cells of a box are stored. -/
def st6 (x : World) (R : Nat) (s : S) : World := (((((x.setCell ⟨R, 0, none⟩ (.int .i64 (s.first : Int))).setCell ⟨R, 1, none⟩ (.int .i64 (s.count : Int))).setCell ⟨R, 2, none⟩ (.int .i64 (s.epoch : Int))).setCell ⟨R, 3, none⟩ (.int .i64 (s.head : Int))).setCell ⟨R, 4, none⟩ (.int .i64 (s.tail : Int))).setCell ⟨R, 5, none⟩ (.bool s.dead)
theorem st6_turns (x : World) (R : Nat) (s : S) : Turns (fun k => k = R) x (st6 x R s) :=
  ((((((Turns.refl (fun k => k = R) x).setCell (p := ⟨R, 0, none⟩) rfl _).setCell (p := ⟨R, 1, none⟩) rfl _).setCell (p := ⟨R, 2, none⟩) rfl _).setCell (p := ⟨R, 3, none⟩) rfl _).setCell (p := ⟨R, 4, none⟩) rfl _).setCell (p := ⟨R, 5, none⟩) rfl _
theorem DsB.put {x : World} {R : Nat} {s : S} (h : DsB x R s) (s' : S) : DsB (st6 x R s') R s' := by
  have h0 := heap_setCell_same x R 0 _ tDS (.int .i64 (s'.first : Int)) h
  have h1 := heap_setCell_same _ R 1 _ tDS (.int .i64 (s'.count : Int)) h0
  have h2 := heap_setCell_same _ R 2 _ tDS (.int .i64 (s'.epoch : Int)) h1
  have h3 := heap_setCell_same _ R 3 _ tDS (.int .i64 (s'.head : Int)) h2
  have h4 := heap_setCell_same _ R 4 _ tDS (.int .i64 (s'.tail : Int)) h3
  exact heap_setCell_same _ R 5 _ tDS (.bool s'.dead) h4
set_option maxHeartbeats 16000000 in
set_option maxRecDepth 100000 in
theorem dopen_any (n : Nat) (kv cv : Value) (t : Tray (List UInt8)) (s : S) (w : World) (hk : Ta.IsW w kv t.kept) (hc : Ta.IsW w cv t.cache) (hl : ∀ a, (t.read nul a).length = 128) (h0 : s.tail = s.head) (hd : s.dead = false) (ho : Opens n s.first s.count s.head s.epoch) (hn : n ≤ 555) :
    Calls Try.prog 21 #[Ta.trV (n : Int) kv cv t.left t.dark, .int .i64 (s.first : Int), .int .i64 (s.count : Int), .int .i64 (s.head : Int), .int .i64 (s.epoch : Int)] w fun e x => ∃ v, e = .returned (.tuple #[.agg (dsC { s with tail := (found t s).2 }), v, .int .i64 0]) ∧ Below w.heap.size w x ∧ IsRecs x v (found t s).1 ∧ s.head ≤ (found t s).2 ∧ (found t s).2 ≤ s.head + s.count ∧ ∃ B, w.heap.size ≤ B ∧ Recs B (fun k => k < B) x v (found t s).1 := by
  obtain ⟨⟨o1, o2, o3, o4⟩, o5, o6, o7, o8⟩ := ho
  have hrl : ∀ k, (rdS t s k).length = 128 := fun k => hl _
  have hrd : ∀ tl, rdS t { s with tail := tl } = rdS t s := fun _ => rfl
  have hpr := rdS_round t s
  have HL := Lib.hid (And.intro hrl (And.intro hpr hl))
  have HK := Lib.hid (And.intro hk hc)
  obtain ⟨ka, kq, rfl⟩ := hk.slice
  obtain ⟨ca, cq, rfl⟩ := hc.slice
  unfold found
  generalize hrdq : rdS t s = rd at *
  have HRd := Lib.hid hrdq
  clear hrdq hrl hpr hl
  obtain ⟨first, count, head, tail, epoch, dead⟩ := s
  simp only at h0 hd o1 o2 o3 o4 o5 o6 o7 o8 hrd HL
  subst h0 hd
  have HO := Lib.hid (show 2 ≤ count ∧ count ≤ 555 ∧ first ≤ 555 ∧ tail ≤ 1099511627776 ∧ 1 ≤ epoch ∧ epoch ≤ 4294967295 from by omega)
  have e1 : ¬ (count : Int) < 2 := by omega
  have e2 : ¬ (4096 : Int) < (count : Int) := by omega
  have e3 : ¬ (first : Int) < 0 := by omega
  have e4 : ¬ (n : Int) < (first : Int) := by omega
  have w5 : IntKind.i64.wrap ((n : Int) - (first : Int)) = (n : Int) - (first : Int) := by rw [IntKind.wrap_i64] <;> omega
  have e5 : ¬ (n : Int) - (first : Int) < (count : Int) := by omega
  have e6 : ¬ (tail : Int) < 0 := by omega
  have e7 : ¬ (1099511627776 : Int) < (tail : Int) := by omega
  have e8 : ¬ (epoch : Int) < 1 := by omega
  have e9 : ¬ (4294967295 : Int) < (epoch : Int) := by omega
  unfold Ta.trV
  go_enter Try.func21, Try.ntmps21
  go_upto_region 4 with fail
  clear e1 e2 e3 e4 e5 e6 e7 e8 e9 o1 o2 o3 o4 o5 o6 o7 o8 w5
  obtain ⟨W, hW⟩ : ∃ W, W = ((w.alloc (.cells #[.int .i64 (n : Int), .slice ka t.kept.length kq, .slice ca t.cache.length cq, .int .i64 t.left, .bool t.dark] Ta.tTr)).alloc (.cells #[.int .i64 0, .int .i64 0, .int .i64 0, .int .i64 0, .int .i64 0, .bool false] tDS)).alloc (.cells (dsC ⟨first, count, tail, tail, epoch, false⟩) tDS) := ⟨_, rfl⟩
  change Code.wp _ _ _ _ (((w.alloc (.cells #[.int .i64 (n : Int), .slice ka t.kept.length kq, .slice ca t.cache.length cq, .int .i64 t.left, .bool t.dark] Ta.tTr)).alloc (.cells #[.int .i64 0, .int .i64 0, .int .i64 0, .int .i64 0, .int .i64 0, .bool false] tDS)).alloc (.cells (dsC ⟨first, count, tail, tail, epoch, false⟩) tDS))
  rw [← hW]
  have HW := Lib.hid (show Below w.heap.size w W ∧ Ta.C5 w.heap.size Ta.tTr (.int .i64 (n : Int)) (.slice ka t.kept.length kq) (.slice ca t.cache.length cq) (.int .i64 t.left) (.bool t.dark) W ∧ DsB W (w.heap.size + 1) ⟨0, 0, 0, 0, 0, false⟩ ∧ DsB W (w.heap.size + 1 + 1) ⟨first, count, tail, tail, epoch, false⟩ ∧ W.heap.size = w.heap.size + 3 from by
    rw [hW]
    generalize hA : w.alloc (.cells #[.int .i64 (n : Int), .slice ka t.kept.length kq, .slice ca t.cache.length cq, .int .i64 t.left, .bool t.dark] Ta.tTr) = A
    have ha := heap_alloc_new w (.cells #[.int .i64 (n : Int), .slice ka t.kept.length kq, .slice ca t.cache.length cq, .int .i64 t.left, .bool t.dark] Ta.tTr)
    have hbA : Below w.heap.size w A := by rw [← hA]; exact (Below.refl _ _).alloc (Nat.le_refl _) _
    have hsA : A.heap.size = w.heap.size + 1 := by rw [← hA]; simp
    rw [hA] at ha
    generalize hB : A.alloc (.cells #[.int .i64 0, .int .i64 0, .int .i64 0, .int .i64 0, .int .i64 0, .bool false] tDS) = B
    have hb := heap_alloc_new A (.cells #[.int .i64 0, .int .i64 0, .int .i64 0, .int .i64 0, .int .i64 0, .bool false] tDS)
    have hbB : Below A.heap.size A B := by rw [← hB]; exact (Below.refl _ _).alloc (Nat.le_refl _) _
    have hsB : B.heap.size = w.heap.size + 2 := by rw [← hB]; simp [hsA]
    rw [hB, hsA] at hb
    have hc := heap_alloc_new B (.cells (dsC ⟨first, count, tail, tail, epoch, false⟩) tDS)
    have hbC : Below B.heap.size B (B.alloc (.cells (dsC ⟨first, count, tail, tail, epoch, false⟩) tDS)) := (Below.refl _ _).alloc (Nat.le_refl _) _
    rw [hsB] at hc
    refine ⟨(hbA.trans (hbB.mono hbA.size)).trans (hbC.mono (by omega)), (hbC.block w.heap.size (by omega)).trans ((hbB.block w.heap.size (by omega)).trans ha), (hbC.block (w.heap.size + 1) (by omega)).trans hb, hc, by simp [hsB]⟩)
  clear hW hk hc
  have hcnt := HO.out.1
  go_wp2_with fail
  generalize hR : w.heap.size + 1 = R at *
  generalize hg : R + 1 = g at *
  have HT := Lib.hid (And.intro hR hg)
  clear hR hg
  go_loopw [14, 15] (fun v i x => ∃ (tl le f : Nat) (L : List (List UInt8)), i = .int .i64 (le : Int) ∧ le < 281474976710656 ∧ tail ≤ tl ∧ tl ≤ tail + count ∧ tail + count - tl ≤ f ∧ Hid (Turns (fun k => k = g) W x ∧ DsB x g ⟨first, count, tail, tl, epoch, false⟩ ∧ Recs W.heap.size (fun k => k < W.heap.size) x v L ∧ L.length + f ≤ count) ∧
    Hid (find rd (tail + count) epoch count tail 0 = (L ++ (find rd (tail + count) epoch f tl le).1, (find rd (tail + count) epoch f tl le).2) ∧ Cov rd tail tl)) (fun _ _ x => tail + count - tailIn x g)
  case atStart => exact ⟨tail, 0, count, [], rfl, by omega, by omega, by omega, by omega, ⟨Turns.refl _ _, HW.out.2.2.2.1, recs_nil _ _ _, by simp⟩, Lib.hid ⟨by rw [List.nil_append], fun m h1 h2 => by omega⟩⟩
  case round =>
    obtain ⟨tl, le, f, L, rfl, hle, ht1, ht2, hf, HX, HE⟩ := hrel
    obtain ⟨d0, d1, d2, d3, d4, d5⟩ := HX.out.2.1.cells
    have hgR : g ≠ w.heap.size ∧ g ≠ R ∧ w.heap.size ≤ g := by have := HT.out; omega
    have HBw := Lib.hid (show Below w.heap.size w wr from (HW.out.1.trans (HX.out.1.below (by have := HW.out.1.size; omega) fun k e => by have := HT.out; omega)))
    have HC5 := Lib.hid (HW.out.2.1.turn HX.out.1 fun e => hgR.1 e.symm)
    have HR0 := Lib.hid (HW.out.2.2.1.turn HX.out.1 fun e => hgR.2.1 e.symm)
    have hw1 : IntKind.i64.wrap ((tl : Int) - (tail : Int)) = (tl : Int) - (tail : Int) := by rw [IntKind.wrap_i64] <;> (have := HO.out; omega)
    obtain ⟨ra, rc, rfl⟩ := HX.out.2.2.1.slice
    by_cases hlt : tl < tail + count
    · have q0 : (tl : Int) - (tail : Int) < (count : Int) := by omega
      have hfit : Fits ⟨first, count, tail, tl, epoch, false⟩ := by
        have := HO.out
        exact ⟨by show 2 ≤ count ∧ count ≤ 4096; omega, by show first ≤ 4096; omega, ht1, by show tl ≤ _; omega, by show 1 ≤ epoch ∧ epoch ≤ _; omega⟩
      have HRc := Lib.hid (drec_any (n : Int) (.slice ka t.kept.length kq) (.slice ca t.cache.length cq) t ⟨first, count, tail, tl, epoch, false⟩ tl wr (HK.out.1.below HBw.out) (HK.out.2.below HBw.out) hfit HL.out.2.2 (by have := HO.out; omega))
      rw [show rdS t ⟨first, count, tail, tl, epoch, false⟩ = rd from HRd.out ▸ rfl] at HRc
      unfold Ta.trV dsC at HRc
      simp only at HRc
      obtain ⟨c0, c1, c2, c3, c4⟩ := HC5.out.cells
      clear hfit
      go_wp2_with fail
      refine HRc.out.mono ?_
      rintro e x1 ⟨pe, po, bv, rfl, hb1, ⟨ba, bm, bc, rfl⟩, hpe, hpo, hnone, hsome⟩
      obtain ⟨st, hst⟩ : ∃ b : Bool, b = decide (po = 0 ∨ tail + count < tl + po ∨ pe < le ∨ epoch ≤ pe) := ⟨_, rfl⟩
      have HSt := Lib.hid (show (st = true → rec rd tl le epoch = none) ∧ (st = false → ∃ b, rec rd tl le epoch = some (b, pe, po) ∧ tl + po ≤ tail + count ∧ 0 < po ∧ All rd tl pe po ∧ Stay (fun k => k < wr.heap.size) x1 (fun y => IsBytes y (.slice ba bm bc) b)) from by
        have hcn : count ≤ 555 := HO.out.2.1
        have hO := HO.out
        constructor
        · intro h
          rw [hst] at h
          have h := of_decide_eq_true h
          cases hr : rec rd tl le epoch with
          | none => rfl
          | some y =>
            obtain ⟨b, e, o⟩ := y
            have h1 := drec_of_rec HL.out.2.1 HL.out.1 HE.out.2 ht1 hlt (by omega) (by omega) hr
            obtain ⟨rfl, rfl, -⟩ := hsome b e o h1.1
            omega
        · intro h
          rw [hst] at h
          have h := of_decide_eq_false h
          cases hd : drec rd count tl with
          | none => exact absurd (hnone hd) (by omega)
          | some y =>
            obtain ⟨b, e, o⟩ := y
            obtain ⟨rfl, rfl, hs⟩ := hsome b e o hd
            cases hr : rec rd tl le epoch with
            | none =>
              have := drec_none HL.out.1 hcn hr hd
              omega
            | some y =>
              obtain ⟨b', e', o'⟩ := y
              have h1 := drec_of_rec HL.out.2.1 HL.out.1 HE.out.2 ht1 hlt (by omega) (by omega) hr
              have heq := h1.1
              rw [hd] at heq
              cases heq
              exact ⟨b, rfl, h1.2.1, h1.2.2.2.2.1, h1.2.2.2.2.2, hs⟩)
      have HSq := Lib.hid hst
      have HB1 := Lib.hid hb1
      clear hst hnone hsome hb1 HRc c0 c1 c2 c3 c4 d0 d1 d2 d3 d4 d5
      obtain ⟨d0, d1, d2, d3, d4, d5⟩ := (HX.out.2.1.on HB1.out).cells
      go_upto_region 8 with fail
      go_cut [106] (fun v wx => v = .bool st ∧ x1 = wx)
      case first =>
        have hw2 : IntKind.i64.wrap ((count : Int) - ((tl : Int) - (tail : Int))) = (count : Int) - ((tl : Int) - (tail : Int)) := by rw [IntKind.wrap_i64] <;> (have := HO.out; omega)
        by_cases g1 : po = 0
        · have e1 : ((po : Int) == 0) = true := by simp [g1]
          obtain rfl : st = true := by rw [HSq.out]; exact decide_eq_true (by omega)
          clear g1
          go_wp2_with fail
          go_meet
          case rel => exact ⟨rfl, rfl⟩
        · have e1 : ((po : Int) == 0) = false := by simp; omega
          by_cases g2 : tail + count < tl + po
          · have e2 : (count : Int) - ((tl : Int) - (tail : Int)) < (po : Int) := by omega
            obtain rfl : st = true := by rw [HSq.out]; exact decide_eq_true (by omega)
            clear g1 g2
            go_wp2_with fail
            go_meet
            case rel => exact ⟨rfl, rfl⟩
          · have e2 : ¬ (count : Int) - ((tl : Int) - (tail : Int)) < (po : Int) := by omega
            by_cases g3 : pe < le
            · have e3 : (pe : Int) < (le : Int) := by omega
              obtain rfl : st = true := by rw [HSq.out]; exact decide_eq_true (by omega)
              clear g1 g2
              go_wp2_with fail
              go_meet
              case rel => exact ⟨rfl, rfl⟩
            · have e3 : ¬ (pe : Int) < (le : Int) := by omega
              by_cases g4 : epoch ≤ pe
              · have e4 : (epoch : Int) ≤ (pe : Int) := by omega
                obtain rfl : st = true := by rw [HSq.out]; exact decide_eq_true (by omega)
                clear g1 g2
                go_wp2_with fail
                go_meet
                case rel => exact ⟨rfl, rfl⟩
              · have e4 : ¬ (epoch : Int) ≤ (pe : Int) := by omega
                obtain rfl : st = false := by rw [HSq.out]; exact decide_eq_false (by omega)
                clear g1 g2
                go_wp2_with fail
                go_meet
                case rel => exact ⟨rfl, rfl⟩
      case rest =>
        obtain ⟨rfl, rfl⟩ := hcut
        clear d0 d1 d2 d3 d4 d5 HSq
        cases st with
        | true =>
          have HFi := Lib.hid (show find rd (tail + count) epoch count tail 0 = (L, tl) from by
            have h := HE.out.1
            rw [find_none (HSt.out.1 rfl), List.append_nil] at h
            exact h)
          have HFn := Lib.hid (And.intro (HR0.out.on HB1.out) (And.intro (HX.out.2.1.on HB1.out) (And.intro (HX.out.2.2.1.below HB1.out) (HBw.out.trans (HB1.out.mono HBw.out.size)))))
          have r0 := HFn.out.1.free 0
          have r1 := HFn.out.1.free 1
          have r2 := HFn.out.1.free 2
          have r3 := HFn.out.1.free 3
          have r4 := HFn.out.1.free 4
          have r5 := HFn.out.1.free 5
          obtain ⟨z0, z1, z2, z3, z4, z5⟩ := HFn.out.1.cells
          obtain ⟨d0, d1, d2, d3, d4, d5⟩ := HFn.out.2.1.cells
          go_wp2_with fail
          change bodyPost _ _ _ _ _ (st6 x1 R ⟨first, count, tail, tl, epoch, false⟩)
          have ht6 := st6_turns x1 R ⟨first, count, tail, tl, epoch, false⟩
          have hp6 := HFn.out.1.put ⟨first, count, tail, tl, epoch, false⟩
          generalize st6 x1 R ⟨first, count, tail, tl, epoch, false⟩ = Fin at *
          clear r0 r1 r2 r3 r4 r5 d0 d1 d2 d3 d4 d5 z0 z1 z2 z3 z4 z5
          obtain ⟨g0, g1, g2, g3, g4, g5⟩ := hp6.cells
          have hB6 : Below w.heap.size w Fin := HFn.out.2.2.2.trans (ht6.below HFn.out.2.2.2.size fun k e => by have := HT.out; omega)
          have hrc6 := HFn.out.2.2.1.turn (ht6.mono fun k _ e => by have := HT.out; have := HW.out.2.2.2.2; show k < W.heap.size; omega) fun k hk => hk
          refine bodyPost_ret (v := .tuple #[.agg (dsC ⟨first, count, tail, tl, epoch, false⟩), .slice ra L.length rc, .int .i64 0]) (by simp [results, Try.results21, go_sem, g0, g1, g2, g3, g4, g5, dsC]) rfl ⟨.slice ra L.length rc, ?_, hB6, ?_, ?_, ?_, W.heap.size, HW.out.1.size, ?_⟩
          · rw [HFi.out]
          · rw [HFi.out]; exact hrc6.is
          · rw [HFi.out]; exact ht1
          · rw [HFi.out]; exact ht2
          · rw [HFi.out]; exact hrc6
        | false =>
          obtain ⟨b, hrec, hroom, hpo0, hall, hst⟩ := HSt.out.2 rfl
          obtain ⟨f, rfl⟩ : ∃ f', f = f' + 1 := ⟨f - 1, by omega⟩
          have HE2 := Lib.hid (show find rd (tail + count) epoch count tail 0 = (L ++ [b] ++ (find rd (tail + count) epoch f (tl + po) pe).1, (find rd (tail + count) epoch f (tl + po) pe).2) ∧ Cov rd tail (tl + po) from by
            have h := HE.out.1
            rw [find_step hlt hrec] at h
            exact ⟨by rw [h, List.append_assoc]; rfl, HE.out.2.more hall (by have := HO.out; omega)⟩)
          have HRm := Lib.hid (show tl + po ≤ tail + count ∧ 0 < po from ⟨hroom, hpo0⟩)
          have hal : Below x1.heap.size x1 (x1.alloc (.cells #[.slice ba bm bc] tBs)) := (Below.refl _ _).alloc (Nat.le_refl _) _
          have hba : Below wr.heap.size wr (x1.alloc (.cells #[.slice ba bm bc] tBs)) := HB1.out.trans (hal.mono HB1.out.size)
          have hrow := HX.out.2.2.1.below hba
          have hcell : (x1.alloc (.cells #[.slice ba bm bc] tBs)).cell? ⟨x1.heap.size, 0, none⟩ = some (.slice ba bm bc) := by rw [Lib.cell_of_heap (heap_alloc_new x1 _)]; rfl
          have hWr := HX.out.1.size
          have hrb : ∀ k, (Value.slice ra L.length rc).ownBlock = some k → W.heap.size ≤ k ∧ k < wr.heap.size := fun k hk => by
            obtain ⟨vs, h4, -⟩ := HX.out.2.2.1
            exact h4.lt k hk
          have hel : Stay (fun k => k < W.heap.size ∨ (Value.slice ra L.length rc).ownBlock = some k) (x1.alloc (.cells #[.slice ba bm bc] tBs)) (fun y => IsBytes y (.slice ba bm bc) b) := by
            refine (hst.below hal).grow (Turns.refl _ _) fun k _ hk => ?_
            rcases hk with hk | hk
            · show k < _
              omega
            · exact (hrb k hk).2
          have HA := Lib.hid (And.intro hrow (And.intro hcell (And.intro hel (And.intro hba (Nat.le_trans hWr hba.size)))))
          have hLz : L.length ≤ 1000000 := by have := HX.out.2.2.2; have := HO.out; omega
          have HRb := Lib.hid hrb
          clear hal hba hrow hcell hel hrb hWr hst hrec hroom hpo0 hall
          go_wp2_with (at_builtin; refine walk_recs rfl _ _ rfl rfl rfl HA.out.1 HA.out.2.2.2.2 HA.out.2.1 HA.out.2.2.1 hLz ?_)
          intro r' y h5 g5 n5
          obtain ⟨ra', rc', hsl⟩ := h5.slice
          have hty : Turns (fun k => (Value.slice ra L.length rc).ownBlock = some k) (x1.alloc (.cells #[.slice ba bm bc] tBs)) y := Turns.of_grown g5 fun k hk => hk
          have hgW : g < W.heap.size := HW.out.2.2.2.1.lt
          have hbx : DsB y g ⟨first, count, tail, tl, epoch, false⟩ := (HX.out.2.1.on HA.out.2.2.2.1).turn hty fun h => by have := (HRb.out g h).1; omega
          have hwy : Turns (fun k => k = g) W y := (HX.out.1.then_below HA.out.2.2.2.1).trans (G := fun k => (Value.slice ra L.length rc).ownBlock = some k) hty fun k hk e => by have := (HRb.out k e).1; omega
          have HY := Lib.hid (And.intro hwy (And.intro hbx h5))
          have hlen : (L ++ [b]).length = L.length + 1 := by simp
          rw [hlen] at hsl
          subst hsl
          clear h5 g5 n5 hty hbx hwy HA hlen hgW
          have hw : IntKind.i64.wrap ((tl : Int) + (po : Int)) = (tl : Int) + (po : Int) := by rw [IntKind.wrap_i64] <;> (have := HO.out; have := HRm.out; omega)
          obtain ⟨d0, d1, d2, d3, d4, d5⟩ := HY.out.2.1.cells
          have f4 := HY.out.2.1.free 4
          have HN := Lib.hid (show Turns (fun k => k = g) W (y.setCell ⟨g, 4, none⟩ (.int .i64 ((tl : Int) + (po : Int)))) ∧ DsB (y.setCell ⟨g, 4, none⟩ (.int .i64 ((tl : Int) + (po : Int)))) g ⟨first, count, tail, tl + po, epoch, false⟩ ∧ Recs W.heap.size (fun k => k < W.heap.size) (y.setCell ⟨g, 4, none⟩ (.int .i64 ((tl : Int) + (po : Int)))) (.slice ra' (L.length + 1) rc') (L ++ [b]) from by
            have ht := turn1 y g 4 (.int .i64 ((tl : Int) + (po : Int)))
            refine ⟨HY.out.1.trans ht fun _ _ e => e, ?_, HY.out.2.2.turn (ht.mono fun k _ e => by have := HW.out.2.2.2.1.lt; show k < _; omega) fun k hk => hk⟩
            unfold DsB
            rw [HY.out.2.1.set 4 _, show dsC ⟨first, count, tail, tl + po, epoch, false⟩ = (dsC ⟨first, count, tail, tl, epoch, false⟩).setIfInBounds 4 (.int .i64 ((tl : Int) + (po : Int))) by simp [dsC]])
          go_wp2_with fail
          go_roundw
          case rel =>
            refine ⟨tl + po, pe, f, L ++ [b], rfl, by omega, by omega, by have := HRm.out; omega, by have := HRm.out; omega, ⟨HN.out.1, HN.out.2.1, HN.out.2.2, by have := HX.out.2.2.2; rw [List.length_append, List.length_singleton]; omega⟩, Lib.hid HE2.out⟩
          case measure =>
            rw [HX.out.2.1.tailIn, HN.out.2.1.tailIn]
            have := HRm.out
            show tail + count - (tl + po) < tail + count - tl
            omega
    · have q0 : ¬ (tl : Int) - (tail : Int) < (count : Int) := by omega
      have HFi := Lib.hid (show find rd (tail + count) epoch count tail 0 = (L, tl) from by
        have h := HE.out.1
        rw [find_end hlt, List.append_nil] at h
        exact h)
      have HFn := Lib.hid (And.intro (HR0.out) (And.intro (HX.out.2.1) (And.intro (HX.out.2.2.1) (HBw.out))))
      have r0 := HFn.out.1.free 0
      have r1 := HFn.out.1.free 1
      have r2 := HFn.out.1.free 2
      have r3 := HFn.out.1.free 3
      have r4 := HFn.out.1.free 4
      have r5 := HFn.out.1.free 5
      obtain ⟨z0, z1, z2, z3, z4, z5⟩ := HFn.out.1.cells
      obtain ⟨d0, d1, d2, d3, d4, d5⟩ := HFn.out.2.1.cells
      go_wp2_with fail
      change bodyPost _ _ _ _ _ (st6 wr R ⟨first, count, tail, tl, epoch, false⟩)
      have ht6 := st6_turns wr R ⟨first, count, tail, tl, epoch, false⟩
      have hp6 := HFn.out.1.put ⟨first, count, tail, tl, epoch, false⟩
      generalize st6 wr R ⟨first, count, tail, tl, epoch, false⟩ = Fin at *
      clear r0 r1 r2 r3 r4 r5 d0 d1 d2 d3 d4 d5 z0 z1 z2 z3 z4 z5
      obtain ⟨g0, g1, g2, g3, g4, g5⟩ := hp6.cells
      have hB6 : Below w.heap.size w Fin := HFn.out.2.2.2.trans (ht6.below HFn.out.2.2.2.size fun k e => by have := HT.out; omega)
      have hrc6 := HFn.out.2.2.1.turn (ht6.mono fun k _ e => by have := HT.out; have := HW.out.2.2.2.2; show k < W.heap.size; omega) fun k hk => hk
      refine bodyPost_ret (v := .tuple #[.agg (dsC ⟨first, count, tail, tl, epoch, false⟩), .slice ra L.length rc, .int .i64 0]) (by simp [results, Try.results21, go_sem, g0, g1, g2, g3, g4, g5, dsC]) rfl ⟨.slice ra L.length rc, ?_, hB6, ?_, ?_, ?_, W.heap.size, HW.out.1.size, ?_⟩
      · rw [HFi.out]
      · rw [HFi.out]; exact hrc6.is
      · rw [HFi.out]; exact ht1
      · rw [HFi.out]; exact ht2
      · rw [HFi.out]; exact hrc6
end Sp
end Go.Proofs.Ytkfmmdiflbnhgaa
