/-
  Layer 12's document: Lose.
  Layer 12's document: Put.
  Layer 12, TrayPlays: the program's tray and the document's, side by side.
-/
import Derived.Test.YtkfmmdiflbnhgaaTgE
import Derived.Test.YtkfmmdiflbnhgaaTgD
namespace Go.Proofs.Ytkfmmdiflbnhgaa
set_option maxRecDepth 100000
open Go.RowKit
namespace Ta
open Knot (Turns NewRow)
open Tr (IsElem append_rows wp_rows own_turn own_below own_slice own_open addp)
section
variable {R B m : Nat} {a b c d e r : Value} {x y : World} {xs : List Value}
theorem C5.app (h : C5 R tTr a b c d e x) (ho : x.ownsRow B tDw 129 r m xs) (g : x.grownBy y r.ownBlock) : C5 R tTr a b c d e y :=
  h.turn (Turns.of_grown (F := fun k => r.ownBlock = some k) g fun k hk => hk) fun hk => by
    obtain ⟨cur, hc⟩ := own_heap ho hk
    exact heap_ne hc h (by decide) rfl
end
theorem dw_at {w : World} {ao : Option Addr} {l : List (Int × List UInt8)} (h : Wrs w ao l) (cap : Nat) {i : Nat} (hi : i < l.length) :
    ∃ g q, (∀ W, (Instr.indexAt tDs (.slice ao l.length cap) (.int .i64 (i : Int))).run Try.prog W = .ok (.pointer (some ⟨g, q, none⟩)) W) ∧ ∀ x, Below w.heap.size w x → (Instr.loadAt tDw (.pointer (some ⟨g, q, none⟩))).run Try.prog x = .ok (.agg (wrc l[i].1 l[i].2)) x := by
  obtain ⟨g, q, hix, h1, h2⟩ := h.at cap hi
  refine ⟨g, q, hix, fun x hx => load_dw x g q _ _ (h.len _ (List.getElem_mem hi)) fun j u hj => ?_⟩
  have key : w.cell? ⟨g, q + j, none⟩ = some u := by
    simp only [wrc] at hj
    cases j with
    | zero => exact h1.trans hj
    | succ j =>
      have := h2 j u hj
      rwa [show q + 1 + j = q + (j + 1) by omega] at this
  exact (hx.cell (World.block_lt_of_cell? w _ key)).trans key

set_option maxHeartbeats 8000000 in
set_option maxRecDepth 100000 in
theorem dlose_any (F : Nat → Prop) (n : Int) (v : Value) (t : Tray (List UInt8)) (cv' : Value) (cs : List Bool) (w : World) (hFl0 : ∀ k, F k → k < w.heap.size) (h : IsD F w v n t) (hf : IsFlags w cv' cs) (hz : t.kept.length + t.cache.length ≤ 100000) :
    Calls Try.prog 29 #[v, cv'] w fun e x => ∃ v', e = .returned v' ∧ IsD F x v' n (t.lose cs) ∧ Below w.heap.size w x := by
  obtain ⟨kv, cv, rfl, hk, hc⟩ := h
  obtain ⟨ka, kq, rfl⟩ := hk.now.slice
  obtain ⟨co, cq, rfl⟩ := hc.now.slice
  have HFl := Lib.hid hf
  obtain ⟨fo, fq, rfl, hf1, hf2, -⟩ := hf
  have hfl : cs.length ≤ 9223372036854775807 := Nat.le_trans hf1 (Nat.le_trans hf2 (by decide))
  have HKC := Lib.hid (And.intro hk (And.intro hc hz))
  have HF0 := Lib.hid hFl0
  clear hFl0
  obtain ⟨Y, hY⟩ : ∃ X, X = (w.alloc (.cells #[.int .i64 n, .slice ka t.kept.length kq, .slice co t.cache.length cq, .int .i64 t.left, .bool t.dark] tTr)).alloc (.cells #[.int .i64 0, .slice none 0 0, .slice none 0 0, .int .i64 0, .bool false] tTr) := ⟨_, rfl⟩
  have h2 := two5 w (.cells #[.int .i64 n, .slice ka t.kept.length kq, .slice co t.cache.length cq, .int .i64 t.left, .bool t.dark] tTr) tTr (.int .i64 0) (.slice none 0 0) (.slice none 0 0) (.int .i64 0) (.bool false)
  have hR : C5 w.heap.size tTr (.int .i64 n) (.slice ka t.kept.length kq) (.slice co t.cache.length cq) (.int .i64 t.left) (.bool t.dark) Y := by
    rw [hY]
    exact C5.on (x := w.alloc _) (heap_alloc_new w _) ((Below.refl _ _).alloc (Nat.le_refl _) _)
  rw [← hY] at h2
  have HY := Lib.hid (And.intro h2.2 (And.intro hR h2.1))
  clear hk hc hz hR h2 hf1 hf2
  go_enter Try.func29, Try.ntmps29
  unfold trV
  go_upto_region 1 with fail
  rw [← hY]
  clear hY
  have HF := Lib.hid (show ∀ x, Below Y.heap.size Y x → x.cell? ⟨w.heap.size, 0, none⟩ = some (.int .i64 n) ∧ x.cell? ⟨w.heap.size, 1, none⟩ = some (.slice ka t.kept.length kq) from fun x hx => ⟨(HY.out.2.1.on hx).cells.1, (HY.out.2.1.on hx).cells.2.1⟩)
  go_cut [5] (fun s5 wx => ∃ (R3 : Nat) (a5 : Option Addr) (p5 : Nat), s5 = .pointer (some ⟨R3, 0, none⟩) ∧ Hid (C5 R3 tTr (.int .i64 n) (.slice a5 t.kept.length p5) (.slice none 0 0) (.int .i64 (-1)) (.bool false) wx ∧ Y.heap.size ≤ R3 ∧ wx.ownsRow Y.heap.size tDw 129 (.slice a5 t.kept.length p5) t.kept.length (wcells t.kept) ∧ Below Y.heap.size Y wx))
  case first =>
    refine Order.beginE (fun x => Below Y.heap.size Y x) [8] (by kernel_rfl) ?_
    refine Order.readsE_any (idx := [0, 1, 3, 4]) (by kernel_rfl) (Below.refl _ _).drew (fun _ _ _ _ _ h => Order.noPanic_put h) 5 _ _ (by decide +kernel) ?_
    simp only [Order.pick, List.getElem?_toArray, List.getElem?_cons_zero, List.getElem?_cons_succ]
    repeat (first
      | (refine Order.reads_off (by rfl) ?_
         simp only [Act.put, List.setIfInBounds_toArray, List.set_cons_zero, List.set_cons_succ])
      | (apply Order.reads_on
         · rfl
         · intro x hx
           first
             | (obtain ⟨q0, q1⟩ := HF.out x hx
                exact Order.load_at rfl rfl (by assumption))
             | (go_simp; rfl)
             | (obtain ⟨q0, q1⟩ := HF.out x hx
                go_simp; rfl)
         simp only [Act.put, List.setIfInBounds_toArray, List.set_cons_zero, List.set_cons_succ]))
    refine Order.reads_end ?_
    have HB0 := Lib.hid (show Below Y.heap.size Y Y.drew from (Below.refl _ _).drew)
    apply Order.actE2 (i := 2) (j := 7)
    · rfl
    · rfl
    · decide +kernel
    · rfl
    · rfl
    · simp only [List.getElem_toArray, List.getElem_cons_succ, List.getElem_cons_zero]
      refine Order.wp_lit0 rfl (empty_dw _) ?_
      have al : Below Y.drew.heap.size Y.drew (Y.drew.alloc (.cells #[] tDw)) := (Below.refl _ _).alloc (Nat.le_refl _) _
      have hb : Below Y.heap.size Y (Y.drew.alloc (.cells #[] tDw)) := HB0.out.trans (al.mono HB0.out.size)
      have ho := own_base (empty_row Y.drew) (show Y.heap.size ≤ Y.drew.heap.size from HB0.out.size)
      refine ⟨hb, ?_⟩
      have HB1 := Lib.hid hb
      have HO := Lib.hid ho
      clear hb ho al
      generalize Y.drew.alloc (.cells #[] tDw) = V1 at *
      generalize Y.drew.heap.size = E0 at *
      apply Order.actE2 (i := 5) (j := 7)
      · rfl
      · rfl
      · decide +kernel
      · rfl
      · rfl
      · simp only [List.getElem_toArray, List.getElem_cons_succ, List.getElem_cons_zero]
        refine wp_app _ _ rfl rfl rfl HO.out HB1.out.size (HKC.out.1.now.below (HY.out.1.trans (HB1.out.mono HY.out.1.size))) (by have := HKC.out.2.2; omega) ?_
        intro r5 V2 o5 g5 n5
        rw [Nat.zero_add, List.nil_append] at o5
        have hb : Below Y.heap.size Y V2 := HB1.out.grown g5 HB1.out.size fun k hk => (HO.out.lt k hk).1
        refine ⟨hb, ?_⟩
        obtain ⟨a5, p5, rfl⟩ := own_slice o5
        have HB2 := Lib.hid hb
        replace HO := Lib.hid o5
        clear hb o5 g5 n5
        refine Order.readsE_any (idx := [6]) (by kernel_rfl) HB2.out (fun _ _ _ _ _ h => Order.noPanic_put h) 2 _ _ (by decide +kernel) ?_
        simp only [Order.pick, List.getElem?_toArray, List.getElem?_cons_zero, List.getElem?_cons_succ]
        repeat (first
          | (refine Order.reads_off (by rfl) ?_
             simp only [Act.put, List.setIfInBounds_toArray, List.set_cons_zero, List.set_cons_succ])
          | (apply Order.reads_on
             · rfl
             · intro x hx
               first
                 | (go_simp; rfl)
                 | (fail
                    go_simp; rfl)
             simp only [Act.put, List.setIfInBounds_toArray, List.set_cons_zero, List.set_cons_succ]))
        refine Order.reads_end ?_
        apply Order.actE (i := 7)
        · rfl
        · decide +kernel
        · rfl
        simp only [List.getElem_toArray, List.getElem_cons_succ, List.getElem_cons_zero]
        unfold Oper.wp
        go_simp
        have al : Below V2.heap.size V2 (V2.alloc (.cells #[.int .i64 0, .slice none 0 0, .slice none 0 0, .int .i64 0, .bool false] tTr)) := (Below.refl _ _).alloc (Nat.le_refl _) _
        have hb : Below Y.heap.size Y (V2.alloc (.cells #[.int .i64 0, .slice none 0 0, .slice none 0 0, .int .i64 0, .bool false] tTr)) := HB2.out.trans (al.mono HB2.out.size)
        have hr : C5 V2.heap.size tTr (.int .i64 0) (.slice none 0 0) (.slice none 0 0) (.int .i64 0) (.bool false) (V2.alloc (.cells #[.int .i64 0, .slice none 0 0, .slice none 0 0, .int .i64 0, .bool false] tTr)) := heap_alloc_new V2 _
        have HL := Lib.hid (show Y.heap.size ≤ V2.heap.size from HB2.out.size)
        refine ⟨hb, ?_⟩
        replace HO := Lib.hid (own_below HO.out al)
        have HB3 := Lib.hid hb
        have HR := Lib.hid hr
        clear hb hr al
        change Order.wpAnyE _ _ _ _ _ _ _ _ _ (V2.alloc (.cells #[.int .i64 0, .slice none 0 0, .slice none 0 0, .int .i64 0, .bool false] tTr))
        generalize V2.alloc (.cells #[.int .i64 0, .slice none 0 0, .slice none 0 0, .int .i64 0, .bool false] tTr) = V3 at *
        generalize V2.heap.size = R3 at *
        obtain ⟨d0, d1, d2, d3, d4⟩ := HR.out.cells
        obtain ⟨f0, f1, f2, f3, f4⟩ := HR.out.free
        apply Order.lastE (i := 8)
        · rfl
        · decide +kernel
        · decide
        · rfl
        unfold Oper.wp
        go_simp
        refine Order.doneE (by decide +kernel) ?_ _
        refine NoPanic.normal ?_
        change Exit.then _ _ _ _ (st5 V3 R3 (.int .i64 n) (.slice a5 t.kept.length p5) (.slice none 0 0) (.int .i64 (-1)) (.bool false))
        have HE := Lib.hid (And.intro (HR.out.put (.int .i64 n) (.slice a5 t.kept.length p5) (.slice none 0 0) (.int .i64 (-1)) (.bool false)) (st5_turns V3 R3 (.int .i64 n) (.slice a5 t.kept.length p5) (.slice none 0 0) (.int .i64 (-1)) (.bool false)))
        clear d0 d1 d2 d3 d4 f0 f1 f2 f3 f4
        generalize st5 V3 R3 (.int .i64 n) (.slice a5 t.kept.length p5) (.slice none 0 0) (.int .i64 (-1)) (.bool false) = Fin at *
        go_wp2_with fail
        go_meet
        case rel =>
          refine ⟨R3, a5, p5, rfl, Lib.hid ⟨HE.out.1, HL.out, own_turn HO.out HE.out.2 fun k hk e => ?_, HB3.out.trans (HE.out.2.below (B := Y.heap.size) HB3.out.size fun k e => by rw [e]; exact HL.out)⟩⟩
          obtain ⟨cur, hc⟩ := own_heap HO.out hk
          exact heap_ne hc HR.out (by decide) e
      · simp only [List.getElem_toArray, List.getElem_cons_succ, List.getElem_cons_zero]
        unfold Oper.wp
        go_simp
        have al : Below V1.heap.size V1 (V1.alloc (.cells #[.int .i64 0, .slice none 0 0, .slice none 0 0, .int .i64 0, .bool false] tTr)) := (Below.refl _ _).alloc (Nat.le_refl _) _
        have hb : Below Y.heap.size Y (V1.alloc (.cells #[.int .i64 0, .slice none 0 0, .slice none 0 0, .int .i64 0, .bool false] tTr)) := HB1.out.trans (al.mono HB1.out.size)
        have hr : C5 V1.heap.size tTr (.int .i64 0) (.slice none 0 0) (.slice none 0 0) (.int .i64 0) (.bool false) (V1.alloc (.cells #[.int .i64 0, .slice none 0 0, .slice none 0 0, .int .i64 0, .bool false] tTr)) := heap_alloc_new V1 _
        have HL := Lib.hid (show Y.heap.size ≤ V1.heap.size from HB1.out.size)
        refine ⟨hb, ?_⟩
        replace HO := Lib.hid (own_below HO.out al)
        have HB2 := Lib.hid hb
        have HR := Lib.hid hr
        clear hb hr al
        change Order.wpAnyE _ _ _ _ _ _ _ _ _ (V1.alloc (.cells #[.int .i64 0, .slice none 0 0, .slice none 0 0, .int .i64 0, .bool false] tTr))
        generalize V1.alloc (.cells #[.int .i64 0, .slice none 0 0, .slice none 0 0, .int .i64 0, .bool false] tTr) = V2 at *
        generalize V1.heap.size = R3 at *
        apply Order.actE (i := 5)
        · rfl
        · decide +kernel
        · rfl
        simp only [List.getElem_toArray, List.getElem_cons_succ, List.getElem_cons_zero]
        refine wp_app _ _ rfl rfl rfl HO.out HB2.out.size (HKC.out.1.now.below (HY.out.1.trans (HB2.out.mono HY.out.1.size))) (by have := HKC.out.2.2; omega) ?_
        intro r5 V3 o5 g5 n5
        rw [Nat.zero_add, List.nil_append] at o5
        have hb : Below Y.heap.size Y V3 := HB2.out.grown g5 HB2.out.size fun k hk => (HO.out.lt k hk).1
        refine ⟨hb, ?_⟩
        obtain ⟨a5, p5, rfl⟩ := own_slice o5
        replace HR := Lib.hid (HR.out.app HO.out g5)
        have HB3 := Lib.hid hb
        replace HO := Lib.hid o5
        clear hb o5 g5 n5
        refine Order.readsE_any (idx := [6]) (by kernel_rfl) HB3.out (fun _ _ _ _ _ h => Order.noPanic_put h) 1 _ _ (by decide +kernel) ?_
        simp only [Order.pick, List.getElem?_toArray, List.getElem?_cons_zero, List.getElem?_cons_succ]
        repeat (first
          | (refine Order.reads_off (by rfl) ?_
             simp only [Act.put, List.setIfInBounds_toArray, List.set_cons_zero, List.set_cons_succ])
          | (apply Order.reads_on
             · rfl
             · intro x hx
               first
                 | (go_simp; rfl)
                 | (fail
                    go_simp; rfl)
             simp only [Act.put, List.setIfInBounds_toArray, List.set_cons_zero, List.set_cons_succ]))
        refine Order.reads_end ?_
        obtain ⟨d0, d1, d2, d3, d4⟩ := HR.out.cells
        obtain ⟨f0, f1, f2, f3, f4⟩ := HR.out.free
        apply Order.lastE (i := 8)
        · rfl
        · decide +kernel
        · decide
        · rfl
        unfold Oper.wp
        go_simp
        refine Order.doneE (by decide +kernel) ?_ _
        refine NoPanic.normal ?_
        change Exit.then _ _ _ _ (st5 V3 R3 (.int .i64 n) (.slice a5 t.kept.length p5) (.slice none 0 0) (.int .i64 (-1)) (.bool false))
        have HE := Lib.hid (And.intro (HR.out.put (.int .i64 n) (.slice a5 t.kept.length p5) (.slice none 0 0) (.int .i64 (-1)) (.bool false)) (st5_turns V3 R3 (.int .i64 n) (.slice a5 t.kept.length p5) (.slice none 0 0) (.int .i64 (-1)) (.bool false)))
        clear d0 d1 d2 d3 d4 f0 f1 f2 f3 f4
        generalize st5 V3 R3 (.int .i64 n) (.slice a5 t.kept.length p5) (.slice none 0 0) (.int .i64 (-1)) (.bool false) = Fin at *
        go_wp2_with fail
        go_meet
        case rel =>
          refine ⟨R3, a5, p5, rfl, Lib.hid ⟨HE.out.1, HL.out, own_turn HO.out HE.out.2 fun k hk e => ?_, HB3.out.trans (HE.out.2.below (B := Y.heap.size) HB3.out.size fun k e => by rw [e]; exact HL.out)⟩⟩
          obtain ⟨cur, hc⟩ := own_heap HO.out hk
          exact heap_ne hc HR.out (by decide) e
    · simp only [List.getElem_toArray, List.getElem_cons_succ, List.getElem_cons_zero]
      unfold Oper.wp
      go_simp
      have al : Below Y.drew.heap.size Y.drew (Y.drew.alloc (.cells #[.int .i64 0, .slice none 0 0, .slice none 0 0, .int .i64 0, .bool false] tTr)) := (Below.refl _ _).alloc (Nat.le_refl _) _
      have hb : Below Y.heap.size Y (Y.drew.alloc (.cells #[.int .i64 0, .slice none 0 0, .slice none 0 0, .int .i64 0, .bool false] tTr)) := HB0.out.trans (al.mono HB0.out.size)
      have hr : C5 Y.heap.size tTr (.int .i64 0) (.slice none 0 0) (.slice none 0 0) (.int .i64 0) (.bool false) (Y.drew.alloc (.cells #[.int .i64 0, .slice none 0 0, .slice none 0 0, .int .i64 0, .bool false] tTr)) := heap_alloc_new Y.drew _
      have HL := Lib.hid (show Y.heap.size ≤ Y.heap.size from HB0.out.size)
      refine ⟨hb, ?_⟩
      have HB1 := Lib.hid hb
      have HR := Lib.hid hr
      clear hb hr al
      change Order.wpAnyE _ _ _ _ _ _ _ _ _ (Y.drew.alloc (.cells #[.int .i64 0, .slice none 0 0, .slice none 0 0, .int .i64 0, .bool false] tTr))
      generalize Y.drew.alloc (.cells #[.int .i64 0, .slice none 0 0, .slice none 0 0, .int .i64 0, .bool false] tTr) = V1 at *
      apply Order.actE (i := 2)
      · rfl
      · decide +kernel
      · rfl
      simp only [List.getElem_toArray, List.getElem_cons_succ, List.getElem_cons_zero]
      refine Order.wp_lit0 rfl (empty_dw _) ?_
      have al : Below V1.heap.size V1 (V1.alloc (.cells #[] tDw)) := (Below.refl _ _).alloc (Nat.le_refl _) _
      have hb : Below Y.heap.size Y (V1.alloc (.cells #[] tDw)) := HB1.out.trans (al.mono HB1.out.size)
      have ho := own_base (empty_row V1) (show Y.heap.size ≤ V1.heap.size from HB1.out.size)
      refine ⟨hb, ?_⟩
      replace HR := Lib.hid (HR.out.on al)
      have HB2 := Lib.hid hb
      have HO := Lib.hid ho
      clear hb ho al
      generalize V1.alloc (.cells #[] tDw) = V2 at *
      generalize V1.heap.size = E0 at *
      apply Order.actE (i := 5)
      · rfl
      · decide +kernel
      · rfl
      simp only [List.getElem_toArray, List.getElem_cons_succ, List.getElem_cons_zero]
      refine wp_app _ _ rfl rfl rfl HO.out HB2.out.size (HKC.out.1.now.below (HY.out.1.trans (HB2.out.mono HY.out.1.size))) (by have := HKC.out.2.2; omega) ?_
      intro r5 V3 o5 g5 n5
      rw [Nat.zero_add, List.nil_append] at o5
      have hb : Below Y.heap.size Y V3 := HB2.out.grown g5 HB2.out.size fun k hk => (HO.out.lt k hk).1
      refine ⟨hb, ?_⟩
      obtain ⟨a5, p5, rfl⟩ := own_slice o5
      replace HR := Lib.hid (HR.out.app HO.out g5)
      have HB3 := Lib.hid hb
      replace HO := Lib.hid o5
      clear hb o5 g5 n5
      refine Order.readsE_any (idx := [6]) (by kernel_rfl) HB3.out (fun _ _ _ _ _ h => Order.noPanic_put h) 1 _ _ (by decide +kernel) ?_
      simp only [Order.pick, List.getElem?_toArray, List.getElem?_cons_zero, List.getElem?_cons_succ]
      repeat (first
        | (refine Order.reads_off (by rfl) ?_
           simp only [Act.put, List.setIfInBounds_toArray, List.set_cons_zero, List.set_cons_succ])
        | (apply Order.reads_on
           · rfl
           · intro x hx
             first
               | (go_simp; rfl)
               | (fail
                  go_simp; rfl)
           simp only [Act.put, List.setIfInBounds_toArray, List.set_cons_zero, List.set_cons_succ]))
      refine Order.reads_end ?_
      obtain ⟨d0, d1, d2, d3, d4⟩ := HR.out.cells
      obtain ⟨f0, f1, f2, f3, f4⟩ := HR.out.free
      apply Order.lastE (i := 8)
      · rfl
      · decide +kernel
      · decide
      · rfl
      unfold Oper.wp
      go_simp
      refine Order.doneE (by decide +kernel) ?_ _
      refine NoPanic.normal ?_
      change Exit.then _ _ _ _ (st5 V3 Y.heap.size (.int .i64 n) (.slice a5 t.kept.length p5) (.slice none 0 0) (.int .i64 (-1)) (.bool false))
      have HE := Lib.hid (And.intro (HR.out.put (.int .i64 n) (.slice a5 t.kept.length p5) (.slice none 0 0) (.int .i64 (-1)) (.bool false)) (st5_turns V3 Y.heap.size (.int .i64 n) (.slice a5 t.kept.length p5) (.slice none 0 0) (.int .i64 (-1)) (.bool false)))
      clear d0 d1 d2 d3 d4 f0 f1 f2 f3 f4
      generalize st5 V3 Y.heap.size (.int .i64 n) (.slice a5 t.kept.length p5) (.slice none 0 0) (.int .i64 (-1)) (.bool false) = Fin at *
      go_wp2_with fail
      go_meet
      case rel =>
        refine ⟨Y.heap.size, a5, p5, rfl, Lib.hid ⟨HE.out.1, HL.out, own_turn HO.out HE.out.2 fun k hk e => ?_, HB3.out.trans (HE.out.2.below (B := Y.heap.size) HB3.out.size fun k e => by rw [e]; exact HL.out)⟩⟩
        obtain ⟨cur, hc⟩ := own_heap HO.out hk
        exact heap_ne hc HR.out (by decide) e
  case rest =>
    obtain ⟨R3, a5, p5, rfl, HC⟩ := hcut
    have hRc := HY.out.2.1.on HC.out.2.2.2
    obtain ⟨-, -, c2, -⟩ := hRc.cells
    clear hRc
    go_wp2_with fail
    clear c2
    go_loopw [17] (fun vi y => ∃ (i : Nat) (r : Value) (L : List (Int × List UInt8)), i ≤ t.cache.length ∧ vi = .int .i64 (i : Int) ∧ Hid (C5 R3 tTr (.int .i64 n) r (.slice none 0 0) (.int .i64 (-1)) (.bool false) y ∧ y.ownsRow Y.heap.size tDw 129 r L.length (wcells L) ∧ Below Y.heap.size Y y) ∧ Hid (L = t.kept ++ pick (t.cache.take i) cs)) (fun vi _ => t.cache.length - (intOf vi).toNat)
    case atStart =>
      have e : pick (t.cache.take 0) cs = [] := by rw [List.take_zero]; cases cs <;> rfl
      exact ⟨0, .slice a5 t.kept.length p5, t.kept, by omega, rfl, ⟨HC.out.1, HC.out.2.2.1, HC.out.2.2.2⟩, by rw [e, List.append_nil]; rfl⟩
    case round =>
      obtain ⟨i, r, L, hi, rfl, HI, HL⟩ := hrel
      have hNR : w.heap.size + 1 < R3 := by have := HY.out.2.2.lt; have := HC.out.2.1; omega
      have HNR := Lib.hid hNR
      clear hNR
      have hcl : t.cache.length ≤ 100000 := by have := HKC.out.2.2; omega
      by_cases hlt : i < t.cache.length
      · have hpk := pick_take hlt cs
        have hpl := pick_length (t.cache.take i) cs
        rw [List.length_take] at hpl
        have hbw := HY.out.1.trans (HI.out.2.2.mono HY.out.1.size)
        obtain ⟨ao', q', e', hw, -⟩ := HKC.out.2.1.now
        obtain ⟨rfl, -, rfl⟩ := Value.slice.inj e'
        have h8 := hw.len _ (List.getElem_mem hlt)
        obtain ⟨g, q, hix, hld⟩ := dw_at hw cq hlt
        generalize hq : t.cache[i] = qq at *
        obtain ⟨k, b⟩ := qq
        simp only at h8 hld
        have HH := Lib.hid (And.intro hbw (And.intro hld (And.intro h8 (And.intro hpk hpl))))
        clear hbw hld h8 hpk hpl hw e' hq
        by_cases hjc : i < cs.length
        · have hjI : (i : Int) < (cs.length : Int) := by omega
          obtain ⟨fg, fp, hfi, hfc⟩ := flag_at HFl.out hjc
          have hfx := (HH.out.1.cell (p := ⟨fg, fp, none⟩) (World.block_lt_of_cell? w _ hfc)).trans hfc
          have hgd := getD_at hjc
          clear hfc
          cases hcj : cs[i] with
          | false =>
            rw [hcj] at hfx hgd
            have HGD := Lib.hid hgd
            clear hcj hgd hjc
            go_wp2_with fail
            go_roundw
            case rel =>
              refine ⟨i + 1, r, L, by omega, by go_num, HI, ?_⟩
              show L = _
              rw [HH.out.2.2.2.1, HGD.out, if_neg (by decide), List.append_nil]
              exact HL.out
            case measure => simp [intOf]; omega
          | true =>
            rw [hcj] at hfx hgd
            have HGD := Lib.hid hgd
            clear hcj hgd hjc
            have hoff : ∀ k, r.ownBlock = some k → Y.heap.size ≤ k ∧ k ≠ R3 := fun k hk => by
              obtain ⟨cur, hc⟩ := own_heap HI.out.2.1 hk
              exact ⟨(HI.out.2.1.lt k hk).1, heap_ne hc HI.out.1 (by decide)⟩
            obtain ⟨ra, rc, hra⟩ := own_slice HI.out.2.1
            have HF2 := Lib.hid (show ∀ x, Turns (fun k => r.ownBlock = some k) wr x → x.cell? ⟨R3, 1, none⟩ = some r ∧ x.cell? ⟨w.heap.size, 2, none⟩ = some (.slice co t.cache.length cq) ∧ (Instr.loadAt tDw (.pointer (some ⟨g, q, none⟩))).run Try.prog x = .ok (.agg (wrc k b)) x from fun x hx => by
              have hby : Below Y.heap.size Y x := HI.out.2.2.trans (hx.below (B := Y.heap.size) HI.out.2.2.size fun k hk => (hoff k hk).1)
              exact ⟨(HI.out.1.turn hx fun hk => (hoff _ hk).2 rfl).cells.2.1, (HY.out.2.1.on hby).cells.2.2.1, HH.out.2.1 x (HY.out.1.trans (hby.mono HY.out.1.size))⟩)
            have HOff := Lib.hid hoff
            have HRa := Lib.hid hra
            subst hra
            clear hoff HRa
            go_upto_region 6 with fail
            refine Order.beginE (fun x => Turns (fun k => (Value.slice ra L.length rc).ownBlock = some k) wr x) [9, 10] (by kernel_rfl) ?_
            refine Order.readsE_any (idx := [0, 1, 2, 3, 4, 5, 6]) (by kernel_rfl) (Turns.of_below (Below.refl _ _).drew) (fun _ _ _ _ _ h => Order.noPanic_put h) 4 _ _ (by decide +kernel) ?_
            simp only [Order.pick, List.getElem?_toArray, List.getElem?_cons_zero, List.getElem?_cons_succ]
            repeat (first
              | (refine Order.reads_off (by rfl) ?_
                 simp only [Act.put, List.setIfInBounds_toArray, List.set_cons_zero, List.set_cons_succ])
              | (apply Order.reads_on
                 · rfl
                 · intro x hx
                   first
                     | (obtain ⟨q0, q1, q2⟩ := HF2.out x hx
                        exact Order.load_at rfl rfl (by assumption))
                     | (go_simp; rfl)
                     | (obtain ⟨q0, q1, q2⟩ := HF2.out x hx
                        go_simp; rfl)
                 simp only [Act.put, List.setIfInBounds_toArray, List.set_cons_zero, List.set_cons_succ]))
            refine Order.reads_end ?_
            apply Order.actE (i := 7)
            · rfl
            · decide +kernel
            · rfl
            simp only [List.getElem_toArray, List.getElem_cons_succ, List.getElem_cons_zero]
            refine Order.wp_lit1 rfl rfl (one_dw _ k b HH.out.2.2.1) ?_
            have hal : Below wr.heap.size wr (wr.drew.alloc (.cells (wrc k b) tDw)) := (Below.refl _ _).drew.alloc (Nat.le_refl _) _
            have hnew : (wr.drew.alloc (.cells (wrc k b) tDw)).heap[wr.heap.size]? = some (.cells (wrc k b) tDw (0, 0)) := heap_alloc_new wr.drew _
            refine ⟨Turns.of_below hal, ?_⟩
            have H4 := Lib.hid (And.intro hal (And.intro (lit_isW hnew HH.out.2.2.1) (own_below HI.out.2.1 hal)))
            clear hal hnew
            generalize wr.drew.alloc (.cells (wrc k b) tDw) = V4 at *
            apply Order.actE (i := 8)
            · rfl
            · decide +kernel
            · rfl
            simp only [List.getElem_toArray, List.getElem_cons_succ, List.getElem_cons_zero]
            refine wp_app _ _ rfl rfl rfl H4.out.2.2 (Nat.le_trans HI.out.2.2.size H4.out.1.size) H4.out.2.1 (by have := congrArg List.length HL.out; rw [List.length_append] at this; have := HKC.out.2.2; have := HH.out.2.2.2.2; simp only [List.length_singleton]; omega) ?_
            intro r5 V5 o5 g5 n5
            change V5.ownsRow _ _ _ r5 (L.length + 1) _ at o5
            obtain ⟨a6, p6, rfl⟩ := own_slice o5
            have t5 : Turns (fun j => (Value.slice ra L.length rc).ownBlock = some j) wr V5 := (Turns.of_below H4.out.1).trans (Turns.of_grown (F := fun j => (Value.slice ra L.length rc).ownBlock = some j) g5 fun j hj => hj) fun _ _ h => h
            refine ⟨t5, ?_⟩
            have hR5 := HI.out.1.turn t5 fun hk => (HOff.out _ hk).2 rfl
            obtain ⟨-, d1, -⟩ := hR5.cells
            have f1 := hR5.free.2.1
            have H5 := Lib.hid (And.intro t5 (And.intro o5 hR5))
            clear t5 o5 g5 n5 hR5
            apply Order.lastE (i := 9)
            · rfl
            · decide +kernel
            · decide
            · rfl
            unfold Oper.wp
            go_simp
            apply Order.lastE (i := 10)
            · rfl
            · decide +kernel
            · decide
            · rfl
            unfold Oper.wp
            go_simp
            refine Order.doneE (by decide +kernel) ?_ _
            refine NoPanic.normal ?_
            clear d1 f1 HF2
            obtain ⟨V6, hV6⟩ : ∃ V6, V6 = V5.setCell ⟨R3, 1, none⟩ (.slice a6 (L.length + 1) p6) := ⟨_, rfl⟩
            have h6 := H5.out.2.2.set 1 (.slice a6 (L.length + 1) p6)
            have t6 : Turns (fun k => k = R3) V5 (V5.setCell ⟨R3, 1, none⟩ (.slice a6 (L.length + 1) p6)) := (Turns.refl (fun k => k = R3) V5).setCell (p := ⟨R3, 1, none⟩) rfl _
            have HFin := Lib.hid (And.intro h6 t6)
            rw [← hV6] at HFin
            clear h6 t6
            rw [← hV6]
            clear hV6
            go_wp2_with fail
            go_roundw
            case rel =>
              refine ⟨i + 1, .slice a6 (L.length + 1) p6, L ++ [(k, b)], by omega, by go_num, ⟨HFin.out.1, ?_, ?_⟩, ?_⟩
              · rw [wcells_append, List.length_append]
                refine own_turn H5.out.2.1 HFin.out.2 fun j hj e => ?_
                obtain ⟨cur, hc⟩ := own_heap H5.out.2.1 hj
                exact heap_ne hc H5.out.2.2 (by decide) e
              · exact (HI.out.2.2.trans (H5.out.1.below (B := Y.heap.size) HI.out.2.2.size fun j hj => (HOff.out j hj).1)).trans (HFin.out.2.below (B := Y.heap.size) (Nat.le_trans HI.out.2.2.size H5.out.1.size) fun j e => by rw [e]; exact HC.out.2.1)
              · show L ++ [(k, b)] = _
                rw [HH.out.2.2.2.1, HGD.out, if_pos rfl, ← List.append_assoc, HL.out]
            case measure => simp [intOf]; omega
        · have hjI : ¬ (i : Int) < (cs.length : Int) := by omega
          have HGD := Lib.hid (getD_past hjc)
          clear hjc
          go_wp2_with fail
          go_roundw
          case rel =>
            refine ⟨i + 1, r, L, by omega, by go_num, HI, ?_⟩
            show L = _
            rw [HH.out.2.2.2.1, HGD.out, if_neg (by decide), List.append_nil]
            exact HL.out
          case measure => simp [intOf]; omega
      · have hne : ¬ (i : Int) < (t.cache.length : Int) := by omega
        have hic : i = t.cache.length := by omega
        subst hic
        rw [List.take_length] at HL
        obtain ⟨ra, rc, rfl⟩ := own_slice HI.out.2.1
        have hM := HY.out.2.2.on HI.out.2.2
        obtain ⟨c0, c1, c2, c3, c4⟩ := HI.out.1.cells
        obtain ⟨d0, d1, d2, d3, d4⟩ := hM.cells
        obtain ⟨f0, f1, f2, f3, f4⟩ := hM.free
        have HT := Lib.hid (And.intro (st5_turns wr (w.heap.size + 1) (.int .i64 n) (.slice ra L.length rc) (.slice none 0 0) (.int .i64 (-1)) (.bool false)) (hM.put (.int .i64 n) (.slice ra L.length rc) (.slice none 0 0) (.int .i64 (-1)) (.bool false)))
        clear hM hlt
        go_wp2_with fail
        change bodyPost _ _ _ _ _ (st5 wr (w.heap.size + 1) (.int .i64 n) (.slice ra L.length rc) (.slice none 0 0) (.int .i64 (-1)) (.bool false))
        clear c0 c1 c2 c3 c4 d0 d1 d2 d3 d4 f0 f1 f2 f3 f4
        generalize st5 wr (w.heap.size + 1) (.int .i64 n) (.slice ra L.length rc) (.slice none 0 0) (.int .i64 (-1)) (.bool false) = Fin at *
        obtain ⟨g0, g1, g2, g3, g4⟩ := HT.out.2.cells
        have hfin : Below w.heap.size w Fin := (HY.out.1.trans (HI.out.2.2.mono HY.out.1.size)).trans (HT.out.1.below (B := w.heap.size) (by have := HY.out.1.size; have := HI.out.2.2.size; omega) fun k e => by omega)
        refine bodyPost_ret (v := .agg #[.int .i64 n, .slice ra L.length rc, .slice none 0 0, .int .i64 (-1), .bool false]) (by simp [results, Try.results29, go_sem, g0, g1, g2, g3, g4]) rfl ⟨_, rfl, ⟨_, _, rfl, ?_, stay_nil _ _⟩, hfin⟩
        show Stay F Fin fun x => IsW x _ (t.kept ++ pick t.cache cs)
        rw [← HL.out]
        refine stay_own (B := Y.heap.size) (own_turn HI.out.2.1 HT.out.1 fun k hk e => ?_) (fun q hq => ?_) fun k hk => by have := HF0.out k hk; have := HY.out.1.size; omega
        · have := (HI.out.2.1.lt k hk).1
          have := HY.out.2.2.lt
          omega
        · rw [HL.out] at hq
          exact (List.mem_append.1 hq).elim (HKC.out.1.now.len q) fun hq => HKC.out.2.1.now.len q (pick_mem hq)
end Ta
end Go.Proofs.Ytkfmmdiflbnhgaa

namespace Go.Proofs.Ytkfmmdiflbnhgaa
set_option maxRecDepth 100000
open Go.RowKit
namespace Ta
open Knot (Turns NewRow)
open Tr (IsElem append_rows wp_rows own_turn own_below own_slice own_open addp)
/-- The first bytes, and noughts behind. -/
def part (b : List UInt8) (i : Nat) : List UInt8 := b.take i ++ List.replicate (128 - i) 0
theorem part_zero (b : List UInt8) : part b 0 = nul := by simp [part, nul]
theorem part_end (b : List UInt8) : part b b.length = pad b := by simp [part, pad]
theorem part_len {b : List UInt8} {i : Nat} (h : i ≤ b.length) (hb : b.length ≤ 128) : (part b i).length = 128 := by simp [part]; omega
theorem part_step {b : List UInt8} {i : Nat} (h : i < b.length) (hb : b.length ≤ 128) : (part b i).set i b[i] = part b (i + 1) := by
  unfold part
  obtain ⟨m, hm⟩ : ∃ m, 128 - i = m + 1 := ⟨127 - i, by omega⟩
  rw [hm, List.replicate_succ, List.set_append_right _ _ (by simp; omega), List.take_succ_eq_append_getElem h, List.append_assoc]
  have : i - (b.take i).length = 0 := by simp; omega
  rw [this, List.set_cons_zero, show 128 - (i + 1) = m by omega]
  rfl
theorem wrc_set (k : Int) (c : List UInt8) (i : Nat) (u : UInt8) : (wrc k c).setIfInBounds (1 + i) (.int .u8 (u.toNat : Nat)) = wrc k (c.set i u) := by
  refine Array.toList_inj.1 ?_
  simp only [wrc, Array.toList_setIfInBounds, Nat.add_comm 1 i, List.set_cons_succ, Lib.byteCells, List.map_set]
theorem byte_at {w : World} {v : Value} {b : List UInt8} (h : IsBytes w v b) {i : Nat} (hi : i < b.length) : ∃ g q, (∀ W, (Instr.indexAt 22 v (.int .i64 (i : Int))).run Try.prog W = .ok (.pointer (some ⟨g, q, none⟩)) W) ∧ w.cell? ⟨g, q, none⟩ = some (.int .u8 (b[i].toNat : Nat)) := by
  obtain ⟨ao, cap, rfl, h1, h2, h3⟩ := h
  obtain ⟨g, o, rfl, hc⟩ := h3 (by omega)
  refine ⟨g, o + i, fun W => ?_, hc i _ (by simp [Lib.byteCells, hi])⟩
  have hz : ∀ w, (sizeOf (Try.prog.elem 22)).run Try.prog w = .ok 1 w := fun w => by kernel_rfl
  have : b.length ≤ 9223372036854775807 := Nat.le_trans h1 (Nat.le_trans h2 (by decide))
  rw [run_indexAt_slice W _ _ _ _ _ _ Try.underlying22, if_pos ⟨by omega, by omega⟩, hz]
  have e : ((i : Int)).toNat = i := by omega
  simp only [Result.andThen_ok, e, Addr.add_lit, Nat.mul_one]
theorem arr_at (g i : Nat) (h : i < 128) (W : World) : (Instr.indexAt 64 (.pointer (some ⟨g, 1, none⟩)) (.int .i64 (i : Int))).run Try.prog W = .ok (.pointer (some ⟨g, 1 + i, none⟩)) W := by
  have hz : ∀ w, (sizeOf (Try.prog.elem 64)).run Try.prog w = .ok 1 w := fun w => by kernel_rfl
  have hn : Try.prog.arrayLen 64 = 128 := by kernel_rfl
  rw [run_indexAt_array W _ _ _ _ Try.underlying64, hn, if_pos ⟨by omega, by omega⟩, hz]
  have e : ((i : Int)).toNat = i := by omega
  simp only [Result.andThen_ok, e, Addr.add_lit, Nat.mul_one]

set_option maxHeartbeats 16000000 in
set_option maxRecDepth 100000 in
theorem dput_any (F : Nat → Prop) (n : Nat) (v : Value) (t : Tray (List UInt8)) (k : Int) (bv : Value) (b : List UInt8) (w : World) (hF0 : ∀ k, F k → k < w.heap.size) (h : IsD F w v n t) (hb : IsBytes w bv b) (hl : -1 ≤ t.left ∧ t.left ≤ 1099511627776) (hz : t.kept.length + t.cache.length ≤ 100000) :
    Calls Try.prog 36 #[v, .int .i64 k, bv] w fun e x => ∃ v', e = .returned (.tuple #[v', .int .i64 (t.write n k b).2]) ∧ IsD F x v' n (t.write n k b).1 ∧ Below w.heap.size w x := by
  obtain ⟨kv, cv, rfl, hk, hc⟩ := h
  obtain ⟨ka, kq, rfl⟩ := hk.now.slice
  obtain ⟨co, cq, rfl⟩ := hc.now.slice
  have HBs := Lib.hid hb
  obtain ⟨bo, bq, rfl, hb1, hb2, -⟩ := hb
  have hbl : b.length ≤ 9223372036854775807 := Nat.le_trans hb1 (Nat.le_trans hb2 (by decide))
  have HKC := Lib.hid (And.intro hk (And.intro hc hz))
  have HF0 := Lib.hid hF0
  clear hF0
  obtain ⟨ok, hok⟩ : ∃ ok : Bool, ok = decide (t.left ≠ 0) := ⟨_, rfl⟩
  have HS := Lib.hid (fun W => dstep_any n (.slice ka t.kept.length kq) (.slice co t.cache.length cq) t ⟨_, _, _, rfl⟩ ⟨_, _, _, rfl⟩ hl ok hok W)
  have HOk := Lib.hid hok
  obtain ⟨X, hX⟩ : ∃ X, X = (w.alloc (.cells #[.int .i64 n, .slice ka t.kept.length kq, .slice co t.cache.length cq, .int .i64 t.left, .bool t.dark] tTr)).alloc (.cells #[.int .i64 0, .slice none 0 0, .slice none 0 0, .int .i64 0, .bool false] tTr) := ⟨_, rfl⟩
  have h2 := two5 w (.cells #[.int .i64 n, .slice ka t.kept.length kq, .slice co t.cache.length cq, .int .i64 t.left, .bool t.dark] tTr) tTr (.int .i64 0) (.slice none 0 0) (.slice none 0 0) (.int .i64 0) (.bool false)
  have hR : C5 w.heap.size tTr (.int .i64 n) (.slice ka t.kept.length kq) (.slice co t.cache.length cq) (.int .i64 t.left) (.bool t.dark) X := by
    rw [hX]
    exact C5.on (x := w.alloc _) (heap_alloc_new w _) ((Below.refl _ _).alloc (Nat.le_refl _) _)
  rw [← hX] at h2
  have HX := Lib.hid (And.intro h2.2 (And.intro hR h2.1))
  unfold trV at HS
  clear hk hc hl hz hR h2 hb1 hb2 hok
  by_cases hr : k < 0 ∨ n ≤ k ∨ 128 < b.length
  · have HWr := Lib.hid (show t.write n k b = (t, 1) by unfold Tray.write; rw [if_pos hr])
    have key : ∀ (g1 : (k < 0) ∨ ((¬ k < 0) ∧ (n : Int) ≤ k) ∨ ((¬ k < 0) ∧ (¬ (n : Int) ≤ k) ∧ (128 : Int) < (b.length : Int))), True := fun _ => trivial
    clear key
    by_cases h0 : k < 0
    · clear hr
      go_enter Try.func36, Try.ntmps36
      unfold trV
      go_upto_region 1 with fail
      rw [← hX]
      clear hX
      obtain ⟨c0, c1, c2, c3, c4⟩ := HX.out.2.1.cells
      obtain ⟨d0, d1, d2, d3, d4⟩ := HX.out.2.2.cells
      obtain ⟨f0, f1, f2, f3, f4⟩ := HX.out.2.2.free
      have HT := Lib.hid (And.intro (st5_turns X (w.heap.size + 1) (.int .i64 (n : Int)) (.slice ka t.kept.length kq) (.slice co t.cache.length cq) (.int .i64 t.left) (.bool t.dark)) (HX.out.2.2.put (.int .i64 (n : Int)) (.slice ka t.kept.length kq) (.slice co t.cache.length cq) (.int .i64 t.left) (.bool t.dark)))
      go_wp2_with fail
      change bodyPost _ _ _ _ _ (st5 X (w.heap.size + 1) (.int .i64 (n : Int)) (.slice ka t.kept.length kq) (.slice co t.cache.length cq) (.int .i64 t.left) (.bool t.dark))
      clear c0 c1 c2 c3 c4 d0 d1 d2 d3 d4 f0 f1 f2 f3 f4
      generalize st5 X (w.heap.size + 1) (.int .i64 (n : Int)) (.slice ka t.kept.length kq) (.slice co t.cache.length cq) (.int .i64 t.left) (.bool t.dark) = Fin at *
      obtain ⟨g0, g1, g2, g3, g4⟩ := HT.out.2.cells
      have hfin : Below w.heap.size w Fin := (HX.out.1).trans (HT.out.1.below (B := w.heap.size) ((HX.out.1).size) fun k e => by omega)
      refine bodyPost_ret (v := .tuple #[.agg #[.int .i64 (n : Int), .slice ka t.kept.length kq, .slice co t.cache.length cq, .int .i64 t.left, .bool t.dark], .int .i64 1]) (by simp [results, Try.results36, go_sem, g0, g1, g2, g3, g4]) rfl ⟨_, by rw [HWr.out], ?_, hfin⟩
      rw [HWr.out]
      exact ⟨_, _, rfl, HKC.out.1.below hfin, HKC.out.2.1.below hfin⟩
    · by_cases h1 : (n : Int) ≤ k
      · clear hr
        go_enter Try.func36, Try.ntmps36
        unfold trV
        go_upto_region 1 with fail
        rw [← hX]
        clear hX
        obtain ⟨c0, c1, c2, c3, c4⟩ := HX.out.2.1.cells
        obtain ⟨d0, d1, d2, d3, d4⟩ := HX.out.2.2.cells
        obtain ⟨f0, f1, f2, f3, f4⟩ := HX.out.2.2.free
        have HT := Lib.hid (And.intro (st5_turns X (w.heap.size + 1) (.int .i64 (n : Int)) (.slice ka t.kept.length kq) (.slice co t.cache.length cq) (.int .i64 t.left) (.bool t.dark)) (HX.out.2.2.put (.int .i64 (n : Int)) (.slice ka t.kept.length kq) (.slice co t.cache.length cq) (.int .i64 t.left) (.bool t.dark)))
        go_wp2_with fail
        change bodyPost _ _ _ _ _ (st5 X (w.heap.size + 1) (.int .i64 (n : Int)) (.slice ka t.kept.length kq) (.slice co t.cache.length cq) (.int .i64 t.left) (.bool t.dark))
        clear c0 c1 c2 c3 c4 d0 d1 d2 d3 d4 f0 f1 f2 f3 f4
        generalize st5 X (w.heap.size + 1) (.int .i64 (n : Int)) (.slice ka t.kept.length kq) (.slice co t.cache.length cq) (.int .i64 t.left) (.bool t.dark) = Fin at *
        obtain ⟨g0, g1, g2, g3, g4⟩ := HT.out.2.cells
        have hfin : Below w.heap.size w Fin := (HX.out.1).trans (HT.out.1.below (B := w.heap.size) ((HX.out.1).size) fun k e => by omega)
        refine bodyPost_ret (v := .tuple #[.agg #[.int .i64 (n : Int), .slice ka t.kept.length kq, .slice co t.cache.length cq, .int .i64 t.left, .bool t.dark], .int .i64 1]) (by simp [results, Try.results36, go_sem, g0, g1, g2, g3, g4]) rfl ⟨_, by rw [HWr.out], ?_, hfin⟩
        rw [HWr.out]
        exact ⟨_, _, rfl, HKC.out.1.below hfin, HKC.out.2.1.below hfin⟩
      · have h3 : (128 : Int) < (b.length : Int) := by omega
        clear hr
        go_enter Try.func36, Try.ntmps36
        unfold trV
        go_upto_region 1 with fail
        rw [← hX]
        clear hX
        obtain ⟨c0, c1, c2, c3, c4⟩ := HX.out.2.1.cells
        obtain ⟨d0, d1, d2, d3, d4⟩ := HX.out.2.2.cells
        obtain ⟨f0, f1, f2, f3, f4⟩ := HX.out.2.2.free
        have HT := Lib.hid (And.intro (st5_turns X (w.heap.size + 1) (.int .i64 (n : Int)) (.slice ka t.kept.length kq) (.slice co t.cache.length cq) (.int .i64 t.left) (.bool t.dark)) (HX.out.2.2.put (.int .i64 (n : Int)) (.slice ka t.kept.length kq) (.slice co t.cache.length cq) (.int .i64 t.left) (.bool t.dark)))
        go_wp2_with fail
        change bodyPost _ _ _ _ _ (st5 X (w.heap.size + 1) (.int .i64 (n : Int)) (.slice ka t.kept.length kq) (.slice co t.cache.length cq) (.int .i64 t.left) (.bool t.dark))
        clear c0 c1 c2 c3 c4 d0 d1 d2 d3 d4 f0 f1 f2 f3 f4
        generalize st5 X (w.heap.size + 1) (.int .i64 (n : Int)) (.slice ka t.kept.length kq) (.slice co t.cache.length cq) (.int .i64 t.left) (.bool t.dark) = Fin at *
        obtain ⟨g0, g1, g2, g3, g4⟩ := HT.out.2.cells
        have hfin : Below w.heap.size w Fin := (HX.out.1).trans (HT.out.1.below (B := w.heap.size) ((HX.out.1).size) fun k e => by omega)
        refine bodyPost_ret (v := .tuple #[.agg #[.int .i64 (n : Int), .slice ka t.kept.length kq, .slice co t.cache.length cq, .int .i64 t.left, .bool t.dark], .int .i64 1]) (by simp [results, Try.results36, go_sem, g0, g1, g2, g3, g4]) rfl ⟨_, by rw [HWr.out], ?_, hfin⟩
        rw [HWr.out]
        exact ⟨_, _, rfl, HKC.out.1.below hfin, HKC.out.2.1.below hfin⟩
  · have h0 : ¬ k < 0 := by omega
    have h1 : ¬ (n : Int) ≤ k := by omega
    have h3 : ¬ (128 : Int) < (b.length : Int) := by omega
    have HPad := Lib.hid (pad_len (b := b) (by omega))
    have HRg := Lib.hid hr
    clear hr
    go_enter Try.func36, Try.ntmps36
    unfold trV
    go_upto_region 1 with fail
    rw [← hX]
    clear hX
    obtain ⟨c0, c1, c2, c3, c4⟩ := HX.out.2.1.cells
    go_wp2_with fail
    refine (HS.out X).mono ?_
    rintro e x1 ⟨rfl, hb1⟩
    clear c0 c1 c2 c3 c4
    have hR1 := HX.out.2.1.on hb1
    obtain ⟨c0, c1, c2, c3, c4⟩ := hR1.cells
    obtain ⟨f0, f1, f2, f3, f4⟩ := hR1.free
    have HY := Lib.hid (show Below w.heap.size w (st5 x1 w.heap.size (.int .i64 (n : Int)) (.slice ka t.kept.length kq) (.slice co t.cache.length cq) (.int .i64 t.step.left) (.bool t.step.dark)) ∧ C5 w.heap.size tTr (.int .i64 (n : Int)) (.slice ka t.kept.length kq) (.slice co t.cache.length cq) (.int .i64 t.step.left) (.bool t.step.dark) (st5 x1 w.heap.size (.int .i64 (n : Int)) (.slice ka t.kept.length kq) (.slice co t.cache.length cq) (.int .i64 t.step.left) (.bool t.step.dark)) ∧ C5 (w.heap.size + 1) tTr (.int .i64 0) (.slice none 0 0) (.slice none 0 0) (.int .i64 0) (.bool false) (st5 x1 w.heap.size (.int .i64 (n : Int)) (.slice ka t.kept.length kq) (.slice co t.cache.length cq) (.int .i64 t.step.left) (.bool t.step.dark)) from by
      have ht := st5_turns x1 w.heap.size (.int .i64 (n : Int)) (.slice ka t.kept.length kq) (.slice co t.cache.length cq) (.int .i64 t.step.left) (.bool t.step.dark)
      have hz := HX.out.1.size
      have hz1 := hb1.size
      exact ⟨(HX.out.1.trans (hb1.mono hz)).trans (ht.below (B := w.heap.size) (by omega) fun k e => by omega), hR1.put _ _ _ _ _, (HX.out.2.2.on hb1).turn ht (by omega)⟩)
    clear hR1 hb1 HX HS
    go_upto_region 4 with fail
    clear c0 c1 c2 c3 c4 f0 f1 f2 f3 f4
    change Code.wp _ _ _ _ (st5 x1 w.heap.size (.int .i64 (n : Int)) (.slice ka t.kept.length kq) (.slice co t.cache.length cq) (.int .i64 t.step.left) (.bool t.step.dark))
    generalize st5 x1 w.heap.size (.int .i64 (n : Int)) (.slice ka t.kept.length kq) (.slice co t.cache.length cq) (.int .i64 t.step.left) (.bool t.step.dark) = Y at *
    by_cases hleft : t.left = 0
    · obtain rfl : ok = false := by rw [HOk.out]; simp [hleft]
      have HWr := Lib.hid (show t.write n k b = (t.step, 20) by unfold Tray.write Tray.step; rw [if_neg HRg.out, if_pos hleft, if_pos hleft])
      have HQ := Lib.hid (step_parts t)
      clear hleft HOk
      obtain ⟨c0, c1, c2, c3, c4⟩ := HY.out.2.1.cells
      obtain ⟨d0, d1, d2, d3, d4⟩ := HY.out.2.2.cells
      obtain ⟨f0, f1, f2, f3, f4⟩ := HY.out.2.2.free
      have HT := Lib.hid (And.intro (st5_turns Y (w.heap.size + 1) (.int .i64 (n : Int)) (.slice ka t.kept.length kq) (.slice co t.cache.length cq) (.int .i64 t.step.left) (.bool t.step.dark)) (HY.out.2.2.put (.int .i64 (n : Int)) (.slice ka t.kept.length kq) (.slice co t.cache.length cq) (.int .i64 t.step.left) (.bool t.step.dark)))
      go_wp2_with fail
      change bodyPost _ _ _ _ _ (st5 Y (w.heap.size + 1) (.int .i64 (n : Int)) (.slice ka t.kept.length kq) (.slice co t.cache.length cq) (.int .i64 t.step.left) (.bool t.step.dark))
      clear c0 c1 c2 c3 c4 d0 d1 d2 d3 d4 f0 f1 f2 f3 f4
      generalize st5 Y (w.heap.size + 1) (.int .i64 (n : Int)) (.slice ka t.kept.length kq) (.slice co t.cache.length cq) (.int .i64 t.step.left) (.bool t.step.dark) = Fin at *
      obtain ⟨g0, g1, g2, g3, g4⟩ := HT.out.2.cells
      have hfin : Below w.heap.size w Fin := (HY.out.1).trans (HT.out.1.below (B := w.heap.size) ((HY.out.1).size) fun k e => by omega)
      refine bodyPost_ret (v := .tuple #[.agg #[.int .i64 (n : Int), .slice ka t.kept.length kq, .slice co t.cache.length cq, .int .i64 t.step.left, .bool t.step.dark], .int .i64 20]) (by simp [results, Try.results36, go_sem, g0, g1, g2, g3, g4]) rfl ⟨_, by rw [HWr.out], ?_, hfin⟩
      rw [HWr.out]
      refine ⟨_, _, rfl, ?_, ?_⟩
      · rw [HQ.out.1]
        exact HKC.out.1.below hfin
      · rw [HQ.out.2]
        exact HKC.out.2.1.below hfin
    · obtain rfl : ok = true := by rw [HOk.out]; simp [hleft]
      have HWr := Lib.hid (show t.write n k b = ({ t.step with cache := t.step.cache ++ [(k, pad b)] }, 0) by unfold Tray.write Tray.step Tray.put; rw [if_neg HRg.out, if_neg hleft, if_neg hleft, if_neg hleft]; rfl)
      have HQ := Lib.hid (step_parts t)
      clear hleft HOk
      have hz := zero_dw
      have hs0 := wr_size (b := nul) rfl 0
      have hsk := wr_size (b := nul) rfl k
      have hw1 : (wrc 0 nul).setIfInBounds 0 (.int .i64 k) = wrc k nul := by simp [wrc]
      have hw2 : (wrc 0 nul).toList.set 0 (.int .i64 k) = (wrc k nul).toList := by simp [wrc]
      have hw3 : ¬ wrc 0 nul = #[] := fun e => by rw [e] at hs0; cases hs0
      have hst := store_dw Y Y.heap.size 0 k nul nul rfl rfl rfl
      obtain ⟨G, hG⟩ : ∃ G, G = Y.alloc (.cells (wrc k nul) tDw) := ⟨_, rfl⟩
      have hGb : Below Y.heap.size Y G := by rw [hG]; exact (Below.refl _ _).alloc (Nat.le_refl _) _
      have hGn : G.heap[Y.heap.size]? = some (.cells (wrc k nul) tDw (0, 0)) := by rw [hG]; exact heap_alloc_new Y _
      have HG := Lib.hid (And.intro hGb hGn)
      clear hGb hGn
      go_upto_region 7 with fail
      rw [← hG]
      clear hG hz hs0 hsk hw1 hw2 hw3 hst
      generalize hDB : Y.heap.size = DB at *
      have HDB := Lib.hid hDB
      clear hDB
      go_wp2_with fail
      go_loopw [37] (fun vi y => ∃ i : Nat, i ≤ b.length ∧ vi = .int .i64 (i : Int) ∧ Hid (Turns (fun k => k = DB) G y ∧ y.heap[DB]? = some (.cells (wrc k (part b i)) tDw (0, 0)))) (fun vi _ => b.length - (intOf vi).toNat)
      case atStart => exact ⟨0, by omega, rfl, ⟨Turns.refl _ _, by rw [part_zero]; exact HG.out.2⟩⟩
      case round =>
        obtain ⟨i, hi, rfl, HI⟩ := hrel
        by_cases hlt : i < b.length
        · have hDBw : w.heap.size < DB := by rw [← HDB.out]; have := HY.out.2.2.lt; omega
          have hDBG : DB < G.heap.size := (Array.getElem?_eq_some_iff.1 HG.out.2).1
          have hbw : Below w.heap.size w wr := ((HY.out.1.trans (HG.out.1.mono (by rw [← HDB.out]; exact HY.out.1.size))).trans (HI.out.1.below (B := w.heap.size) (by omega) fun k e => by omega))
          obtain ⟨g, q, hix, hcell⟩ := byte_at HBs.out hlt
          have hcx := (hbw.cell (World.block_lt_of_cell? w _ hcell)).trans hcell
          have hxa := arr_at DB i (by omega)
          have hpl := part_len (b := b) (i := i) (by omega) (by omega)
          obtain ⟨old, hold⟩ : ∃ old, wr.cell? ⟨DB, 1 + i, none⟩ = some old := by
            rw [Lib.cell_of_heap HI.out.2]
            have hs := wr_size hpl k
            exact ⟨(wrc k (part b i))[1 + i]'(by rw [hs]; omega), Array.getElem?_eq_getElem _⟩
          have hfr : wr.frozen? ⟨DB, 1 + i, none⟩ = false := Lib.frozen_of_heap HI.out.2 _
          have hset := heap_setCell_same wr DB (1 + i) _ tDw (.int .u8 (b[i].toNat : Nat)) HI.out.2
          rw [wrc_set, part_step hlt (by omega)] at hset
          have htn : Turns (fun k => k = DB) G (wr.setCell ⟨DB, 1 + i, none⟩ (.int .u8 (b[i].toNat : Nat))) := HI.out.1.setCell (p := ⟨DB, 1 + i, none⟩) rfl _
          have HN := Lib.hid (And.intro htn hset)
          generalize b[i] = u at *
          clear hDBw hDBG hbw hcell hpl hset htn
          go_wp2_with fail
          go_roundw
          case rel => exact ⟨i + 1, by omega, by go_num, HN.out⟩
          case measure => simp [intOf]; omega
        · have hne : ¬ (i : Int) < (b.length : Int) := by omega
          have hib : i = b.length := by omega
          subst hib
          rw [part_end] at HI
          obtain ⟨M, hM⟩ : ∃ M, M = wr := ⟨_, rfl⟩
          have HM := Lib.hid (show Below w.heap.size w M ∧ C5 w.heap.size tTr (.int .i64 (n : Int)) (.slice ka t.kept.length kq) (.slice co t.cache.length cq) (.int .i64 t.step.left) (.bool t.step.dark) M ∧ C5 (w.heap.size + 1) tTr (.int .i64 0) (.slice none 0 0) (.slice none 0 0) (.int .i64 0) (.bool false) M from by
            have h1 := HY.out.2.2.lt
            have h2 := HDB.out
            have h3 := HY.out.1.size
            have h4 := HG.out.1.size
            have hg1 : Below Y.heap.size Y G := by rw [h2]; exact HG.out.1
            rw [hM]
            exact ⟨(HY.out.1.trans (hg1.mono h3)).trans (HI.out.1.below (B := w.heap.size) (by omega) fun k e => by omega), (HY.out.2.1.on hg1).turn HI.out.1 (by omega), (HY.out.2.2.on hg1).turn HI.out.1 (by omega)⟩)
          have HMD := Lib.hid (show M.heap[DB]? = some (.cells (wrc k (pad b)) tDw (0, 0)) by rw [hM]; exact HI.out.2)
          have HF := Lib.hid (show ∀ x, Below M.heap.size M x → x.cell? ⟨w.heap.size, 2, none⟩ = some (.slice co t.cache.length cq) ∧ (Instr.loadAt tDw (.pointer (some ⟨DB, 0, none⟩))).run Try.prog x = .ok (.agg (wrc k (pad b))) x from fun x hx =>
            ⟨(HM.out.2.1.on hx).cells.2.2.1, load_dw x DB 0 k (pad b) HPad.out (dw_range ((hx.block DB (Array.getElem?_eq_some_iff.1 HMD.out).1).trans HMD.out))⟩)
          rw [← hM]
          clear hM hlt
          go_wp2_with fail
          go_cut [54] (fun _ wx => ∃ (a6 : Option Addr) (p6 : Nat), Hid (C5 w.heap.size tTr (.int .i64 (n : Int)) (.slice ka t.kept.length kq) (.slice a6 (t.cache.length + 1) p6) (.int .i64 t.step.left) (.bool t.step.dark) wx ∧ C5 (w.heap.size + 1) tTr (.int .i64 0) (.slice none 0 0) (.slice none 0 0) (.int .i64 0) (.bool false) wx ∧ wx.ownsRow M.heap.size tDw 129 (.slice a6 (t.cache.length + 1) p6) (t.cache.length + 1) (wcells (t.cache ++ [(k, pad b)])) ∧ Below w.heap.size w wx))
          case first =>
            refine Order.beginE (fun x => Below M.heap.size M x) [7, 8] (by kernel_rfl) ?_
            refine Order.readsE_any (idx := [1, 2, 4]) (by kernel_rfl) (Below.refl _ _).drew (fun _ _ _ _ _ h => Order.noPanic_put h) 6 _ _ (by decide +kernel) ?_
            simp only [Order.pick, List.getElem?_toArray, List.getElem?_cons_zero, List.getElem?_cons_succ]
            repeat (first
              | (refine Order.reads_off (by rfl) ?_
                 simp only [Act.put, List.setIfInBounds_toArray, List.set_cons_zero, List.set_cons_succ])
              | (apply Order.reads_on
                 · rfl
                 · intro x hx
                   first
                     | (obtain ⟨q0, q1⟩ := HF.out x hx
                        exact Order.load_at rfl rfl (by assumption))
                     | (go_simp; rfl)
                     | (obtain ⟨q0, q1⟩ := HF.out x hx
                        go_simp; rfl)
                 simp only [Act.put, List.setIfInBounds_toArray, List.set_cons_zero, List.set_cons_succ]))
            refine Order.reads_end ?_
            have HB0 := Lib.hid (show Below M.heap.size M M.drew from (Below.refl _ _).drew)
            apply Order.actE2 (i := 0) (j := 5)
            · rfl
            · rfl
            · decide +kernel
            · rfl
            · rfl
            · simp only [List.getElem_toArray, List.getElem_cons_zero]
              refine Order.wp_lit0 rfl (empty_dw _) ?_
              have al : Below M.drew.heap.size M.drew (M.drew.alloc (.cells #[] tDw)) := (Below.refl _ _).alloc (Nat.le_refl _) _
              have hb : Below M.heap.size M (M.drew.alloc (.cells #[] tDw)) := HB0.out.trans (al.mono HB0.out.size)
              have ho := own_base (empty_row M.drew) (show M.heap.size ≤ M.drew.heap.size from HB0.out.size)
              refine ⟨hb, ?_⟩
              have HB1 := Lib.hid hb
              have HO := Lib.hid ho
              clear hb ho al
              generalize M.drew.alloc (.cells #[] tDw) = V1 at *
              replace HO := Lib.hid (show World.ownsRow V1 M.heap.size tDw 129 (.slice (some ⟨M.heap.size, 0, none⟩) 0 0) 0 [] from HO.out)
              have HEl := Lib.hid (HO.out.lt M.heap.size rfl).2
              apply Order.actE2 (i := 3) (j := 5)
              · rfl
              · rfl
              · decide +kernel
              · rfl
              · rfl
              · simp only [List.getElem_toArray, List.getElem_cons_succ, List.getElem_cons_zero]
                refine wp_app _ _ rfl rfl rfl HO.out HB1.out.size (HKC.out.2.1.now.below (HM.out.1.trans (HB1.out.mono HM.out.1.size))) (by have := HKC.out.2.2; omega) ?_
                intro r5 V2 o5 g5 n5
                rw [Nat.zero_add, List.nil_append] at o5
                have hb : Below M.heap.size M V2 := HB1.out.grown g5 HB1.out.size fun k hk => (HO.out.lt k hk).1
                refine ⟨hb, ?_⟩
                obtain ⟨a5, p5, rfl⟩ := own_slice o5
                have HB2 := Lib.hid hb
                replace HO := Lib.hid o5
                clear hb o5 g5 n5
                apply Order.actE (i := 5)
                · rfl
                · decide +kernel
                · rfl
                simp only [List.getElem_toArray, List.getElem_cons_succ, List.getElem_cons_zero]
                refine Order.wp_lit1 rfl rfl (one_dw _ k (pad b) HPad.out) ?_
                have al : Below V2.heap.size V2 (V2.alloc (.cells (wrc k (pad b)) tDw)) := (Below.refl _ _).alloc (Nat.le_refl _) _
                have hb : Below M.heap.size M (V2.alloc (.cells (wrc k (pad b)) tDw)) := HB2.out.trans (al.mono HB2.out.size)
                have hl : (V2.alloc (.cells (wrc k (pad b)) tDw)).heap[V2.heap.size]? = some (.cells (wrc k (pad b)) tDw (0, 0)) := heap_alloc_new V2 _
                refine ⟨hb, ?_⟩
                replace HO := Lib.hid (own_below HO.out al)
                have HB3 := Lib.hid hb
                have HLit := Lib.hid hl
                clear hb hl al
                generalize V2.alloc (.cells (wrc k (pad b)) tDw) = V3 at *
                generalize V2.heap.size = L0 at *
                apply Order.actE (i := 6)
                · rfl
                · decide +kernel
                · rfl
                simp only [List.getElem_toArray, List.getElem_cons_succ, List.getElem_cons_zero]
                refine wp_app _ _ rfl rfl rfl HO.out HB3.out.size (lit_isW HLit.out HPad.out) (by simp only [List.length_singleton]; have := HKC.out.2.2; omega) ?_
                intro r6 V4 o6 g6 n6
                change V4.ownsRow _ _ _ r6 (t.cache.length + 1) _ at o6
                rw [← wcells_append] at o6
                have hb : Below M.heap.size M V4 := HB3.out.grown g6 HB3.out.size fun k hk => (HO.out.lt k hk).1
                refine ⟨hb, ?_⟩
                obtain ⟨a6, p6, rfl⟩ := own_slice o6
                have hR6 := HM.out.2.1.on hb
                obtain ⟨-, -, d2, -⟩ := hR6.cells
                have f2 := hR6.free.2.2.1
                have HB4 := Lib.hid hb
                replace HO := Lib.hid o6
                have HR := Lib.hid hR6
                clear hb o6 g6 n6 hR6
                apply Order.lastE (i := 7)
                · rfl
                · decide +kernel
                · decide
                · rfl
                unfold Oper.wp
                go_simp
                apply Order.lastE (i := 8)
                · rfl
                · decide +kernel
                · decide
                · rfl
                unfold Oper.wp
                go_simp
                refine Order.doneE (by decide +kernel) ?_ _
                refine NoPanic.normal ?_
                have h6 := HR.out.set 2 (.slice a6 (t.cache.length + 1) p6)
                have t6 : Turns (fun k => k = w.heap.size) V4 (V4.setCell ⟨w.heap.size, 2, none⟩ (.slice a6 (t.cache.length + 1) p6)) := (Turns.refl (fun k => k = w.heap.size) V4).setCell (p := ⟨w.heap.size, 2, none⟩) rfl _
                have HE := Lib.hid (And.intro h6 t6)
                clear h6 t6 d2 f2
                generalize V4.setCell ⟨w.heap.size, 2, none⟩ (.slice a6 (t.cache.length + 1) p6) = Fin at *
                go_wp2_with fail
                go_meet
                case rel =>
                  have hNM : w.heap.size < M.heap.size := HM.out.2.1.lt
                  refine ⟨a6, p6, Lib.hid ⟨HE.out.1, (HM.out.2.2.on HB4.out).turn HE.out.2 (by omega), own_turn HO.out HE.out.2 fun j hj e => ?_, (HM.out.1.trans (HB4.out.mono HM.out.1.size)).trans (HE.out.2.below (B := w.heap.size) (Nat.le_trans HM.out.1.size HB4.out.size) fun j e => by omega)⟩⟩
                  have := (HO.out.lt j hj).1
                  omega
              · simp only [List.getElem_toArray, List.getElem_cons_succ, List.getElem_cons_zero]
                refine Order.wp_lit1 rfl rfl (one_dw _ k (pad b) HPad.out) ?_
                have al : Below V1.heap.size V1 (V1.alloc (.cells (wrc k (pad b)) tDw)) := (Below.refl _ _).alloc (Nat.le_refl _) _
                have hb : Below M.heap.size M (V1.alloc (.cells (wrc k (pad b)) tDw)) := HB1.out.trans (al.mono HB1.out.size)
                have hl : (V1.alloc (.cells (wrc k (pad b)) tDw)).heap[V1.heap.size]? = some (.cells (wrc k (pad b)) tDw (0, 0)) := heap_alloc_new V1 _
                refine ⟨hb, ?_⟩
                replace HO := Lib.hid (own_below HO.out al)
                have hne : M.heap.size ≠ V1.heap.size := fun e => by have := HEl.out; omega
                have HNE := Lib.hid hne
                clear hne
                have HB2 := Lib.hid hb
                have HLit := Lib.hid hl
                clear hb hl al
                generalize V1.alloc (.cells (wrc k (pad b)) tDw) = V2 at *
                generalize V1.heap.size = L0 at *
                apply Order.actE (i := 3)
                · rfl
                · decide +kernel
                · rfl
                simp only [List.getElem_toArray, List.getElem_cons_succ, List.getElem_cons_zero]
                refine wp_app _ _ rfl rfl rfl HO.out HB2.out.size (HKC.out.2.1.now.below (HM.out.1.trans (HB2.out.mono HM.out.1.size))) (by have := HKC.out.2.2; omega) ?_
                intro r5 V3 o5 g5 n5
                rw [Nat.zero_add, List.nil_append] at o5
                have hb : Below M.heap.size M V3 := HB2.out.grown g5 HB2.out.size fun k hk => (HO.out.lt k hk).1
                refine ⟨hb, ?_⟩
                obtain ⟨a5, p5, rfl⟩ := own_slice o5
                replace HLit := Lib.hid ((g5.block _ (Array.getElem?_eq_some_iff.1 HLit.out).1 fun e => HNE.out (Option.some.inj e).symm).trans HLit.out)
                have HB3 := Lib.hid hb
                replace HO := Lib.hid o5
                clear hb o5 g5 n5
                apply Order.actE (i := 6)
                · rfl
                · decide +kernel
                · rfl
                simp only [List.getElem_toArray, List.getElem_cons_succ, List.getElem_cons_zero]
                refine wp_app _ _ rfl rfl rfl HO.out HB3.out.size (lit_isW HLit.out HPad.out) (by simp only [List.length_singleton]; have := HKC.out.2.2; omega) ?_
                intro r6 V4 o6 g6 n6
                change V4.ownsRow _ _ _ r6 (t.cache.length + 1) _ at o6
                rw [← wcells_append] at o6
                have hb : Below M.heap.size M V4 := HB3.out.grown g6 HB3.out.size fun k hk => (HO.out.lt k hk).1
                refine ⟨hb, ?_⟩
                obtain ⟨a6, p6, rfl⟩ := own_slice o6
                have hR6 := HM.out.2.1.on hb
                obtain ⟨-, -, d2, -⟩ := hR6.cells
                have f2 := hR6.free.2.2.1
                have HB4 := Lib.hid hb
                replace HO := Lib.hid o6
                have HR := Lib.hid hR6
                clear hb o6 g6 n6 hR6
                apply Order.lastE (i := 7)
                · rfl
                · decide +kernel
                · decide
                · rfl
                unfold Oper.wp
                go_simp
                apply Order.lastE (i := 8)
                · rfl
                · decide +kernel
                · decide
                · rfl
                unfold Oper.wp
                go_simp
                refine Order.doneE (by decide +kernel) ?_ _
                refine NoPanic.normal ?_
                have h6 := HR.out.set 2 (.slice a6 (t.cache.length + 1) p6)
                have t6 : Turns (fun k => k = w.heap.size) V4 (V4.setCell ⟨w.heap.size, 2, none⟩ (.slice a6 (t.cache.length + 1) p6)) := (Turns.refl (fun k => k = w.heap.size) V4).setCell (p := ⟨w.heap.size, 2, none⟩) rfl _
                have HE := Lib.hid (And.intro h6 t6)
                clear h6 t6 d2 f2
                generalize V4.setCell ⟨w.heap.size, 2, none⟩ (.slice a6 (t.cache.length + 1) p6) = Fin at *
                go_wp2_with fail
                go_meet
                case rel =>
                  have hNM : w.heap.size < M.heap.size := HM.out.2.1.lt
                  refine ⟨a6, p6, Lib.hid ⟨HE.out.1, (HM.out.2.2.on HB4.out).turn HE.out.2 (by omega), own_turn HO.out HE.out.2 fun j hj e => ?_, (HM.out.1.trans (HB4.out.mono HM.out.1.size)).trans (HE.out.2.below (B := w.heap.size) (Nat.le_trans HM.out.1.size HB4.out.size) fun j e => by omega)⟩⟩
                  have := (HO.out.lt j hj).1
                  omega
            · simp only [List.getElem_toArray, List.getElem_cons_succ, List.getElem_cons_zero]
              refine Order.wp_lit1 rfl rfl (one_dw _ k (pad b) HPad.out) ?_
              have al : Below M.drew.heap.size M.drew (M.drew.alloc (.cells (wrc k (pad b)) tDw)) := (Below.refl _ _).alloc (Nat.le_refl _) _
              have hb : Below M.heap.size M (M.drew.alloc (.cells (wrc k (pad b)) tDw)) := HB0.out.trans (al.mono HB0.out.size)
              have hl : (M.drew.alloc (.cells (wrc k (pad b)) tDw)).heap[M.heap.size]? = some (.cells (wrc k (pad b)) tDw (0, 0)) := heap_alloc_new M.drew _
              refine ⟨hb, ?_⟩
              have HB1 := Lib.hid hb
              have HLit := Lib.hid hl
              clear hb hl al
              generalize M.drew.alloc (.cells (wrc k (pad b)) tDw) = V1 at *
              apply Order.actE (i := 0)
              · rfl
              · decide +kernel
              · rfl
              simp only [List.getElem_toArray, List.getElem_cons_zero]
              refine Order.wp_lit0 rfl (empty_dw _) ?_
              have al : Below V1.heap.size V1 (V1.alloc (.cells #[] tDw)) := (Below.refl _ _).alloc (Nat.le_refl _) _
              have hb : Below M.heap.size M (V1.alloc (.cells #[] tDw)) := HB1.out.trans (al.mono HB1.out.size)
              have ho := own_base (empty_row V1) (show M.heap.size ≤ V1.heap.size from HB1.out.size)
              refine ⟨hb, ?_⟩
              have hne : V1.heap.size ≠ M.heap.size := fun e => by have := (Array.getElem?_eq_some_iff.1 HLit.out).1; omega
              have HNE := Lib.hid hne
              clear hne
              replace HLit := Lib.hid ((al.block _ (Array.getElem?_eq_some_iff.1 HLit.out).1).trans HLit.out)
              have HB2 := Lib.hid hb
              have HO := Lib.hid ho
              clear hb ho al
              generalize V1.alloc (.cells #[] tDw) = V2 at *
              generalize V1.heap.size = E0 at *
              apply Order.actE (i := 3)
              · rfl
              · decide +kernel
              · rfl
              simp only [List.getElem_toArray, List.getElem_cons_succ, List.getElem_cons_zero]
              refine wp_app _ _ rfl rfl rfl HO.out HB2.out.size (HKC.out.2.1.now.below (HM.out.1.trans (HB2.out.mono HM.out.1.size))) (by have := HKC.out.2.2; omega) ?_
              intro r5 V3 o5 g5 n5
              rw [Nat.zero_add, List.nil_append] at o5
              have hb : Below M.heap.size M V3 := HB2.out.grown g5 HB2.out.size fun k hk => (HO.out.lt k hk).1
              refine ⟨hb, ?_⟩
              obtain ⟨a5, p5, rfl⟩ := own_slice o5
              replace HLit := Lib.hid ((g5.block _ (Array.getElem?_eq_some_iff.1 HLit.out).1 fun e => HNE.out (Option.some.inj e).symm).trans HLit.out)
              have HB3 := Lib.hid hb
              replace HO := Lib.hid o5
              clear hb o5 g5 n5
              apply Order.actE (i := 6)
              · rfl
              · decide +kernel
              · rfl
              simp only [List.getElem_toArray, List.getElem_cons_succ, List.getElem_cons_zero]
              refine wp_app _ _ rfl rfl rfl HO.out HB3.out.size (lit_isW HLit.out HPad.out) (by simp only [List.length_singleton]; have := HKC.out.2.2; omega) ?_
              intro r6 V4 o6 g6 n6
              change V4.ownsRow _ _ _ r6 (t.cache.length + 1) _ at o6
              rw [← wcells_append] at o6
              have hb : Below M.heap.size M V4 := HB3.out.grown g6 HB3.out.size fun k hk => (HO.out.lt k hk).1
              refine ⟨hb, ?_⟩
              obtain ⟨a6, p6, rfl⟩ := own_slice o6
              have hR6 := HM.out.2.1.on hb
              obtain ⟨-, -, d2, -⟩ := hR6.cells
              have f2 := hR6.free.2.2.1
              have HB4 := Lib.hid hb
              replace HO := Lib.hid o6
              have HR := Lib.hid hR6
              clear hb o6 g6 n6 hR6
              apply Order.lastE (i := 7)
              · rfl
              · decide +kernel
              · decide
              · rfl
              unfold Oper.wp
              go_simp
              apply Order.lastE (i := 8)
              · rfl
              · decide +kernel
              · decide
              · rfl
              unfold Oper.wp
              go_simp
              refine Order.doneE (by decide +kernel) ?_ _
              refine NoPanic.normal ?_
              have h6 := HR.out.set 2 (.slice a6 (t.cache.length + 1) p6)
              have t6 : Turns (fun k => k = w.heap.size) V4 (V4.setCell ⟨w.heap.size, 2, none⟩ (.slice a6 (t.cache.length + 1) p6)) := (Turns.refl (fun k => k = w.heap.size) V4).setCell (p := ⟨w.heap.size, 2, none⟩) rfl _
              have HE := Lib.hid (And.intro h6 t6)
              clear h6 t6 d2 f2
              generalize V4.setCell ⟨w.heap.size, 2, none⟩ (.slice a6 (t.cache.length + 1) p6) = Fin at *
              go_wp2_with fail
              go_meet
              case rel =>
                have hNM : w.heap.size < M.heap.size := HM.out.2.1.lt
                refine ⟨a6, p6, Lib.hid ⟨HE.out.1, (HM.out.2.2.on HB4.out).turn HE.out.2 (by omega), own_turn HO.out HE.out.2 fun j hj e => ?_, (HM.out.1.trans (HB4.out.mono HM.out.1.size)).trans (HE.out.2.below (B := w.heap.size) (Nat.le_trans HM.out.1.size HB4.out.size) fun j e => by omega)⟩⟩
                have := (HO.out.lt j hj).1
                omega
          case rest =>
            obtain ⟨a6, p6, HCu⟩ := hcut
            obtain ⟨c0, c1, c2, c3, c4⟩ := HCu.out.1.cells
            obtain ⟨d0, d1, d2, d3, d4⟩ := HCu.out.2.1.cells
            obtain ⟨f0, f1, f2, f3, f4⟩ := HCu.out.2.1.free
            have HT := Lib.hid (And.intro (st5_turns wc (w.heap.size + 1) (.int .i64 (n : Int)) (.slice ka t.kept.length kq) (.slice a6 (t.cache.length + 1) p6) (.int .i64 t.step.left) (.bool t.step.dark)) (HCu.out.2.1.put (.int .i64 (n : Int)) (.slice ka t.kept.length kq) (.slice a6 (t.cache.length + 1) p6) (.int .i64 t.step.left) (.bool t.step.dark)))
            go_wp2_with fail
            change bodyPost _ _ _ _ _ (st5 wc (w.heap.size + 1) (.int .i64 (n : Int)) (.slice ka t.kept.length kq) (.slice a6 (t.cache.length + 1) p6) (.int .i64 t.step.left) (.bool t.step.dark))
            clear c0 c1 c2 c3 c4 d0 d1 d2 d3 d4 f0 f1 f2 f3 f4
            generalize st5 wc (w.heap.size + 1) (.int .i64 (n : Int)) (.slice ka t.kept.length kq) (.slice a6 (t.cache.length + 1) p6) (.int .i64 t.step.left) (.bool t.step.dark) = Fin at *
            obtain ⟨g0, g1, g2, g3, g4⟩ := HT.out.2.cells
            have hfin : Below w.heap.size w Fin := (HCu.out.2.2.2).trans (HT.out.1.below (B := w.heap.size) ((HCu.out.2.2.2).size) fun k e => by omega)
            refine bodyPost_ret (v := .tuple #[.agg #[.int .i64 (n : Int), .slice ka t.kept.length kq, .slice a6 (t.cache.length + 1) p6, .int .i64 t.step.left, .bool t.step.dark], .int .i64 0]) (by simp [results, Try.results36, go_sem, g0, g1, g2, g3, g4]) rfl ⟨_, by rw [HWr.out], ?_, hfin⟩
            rw [HWr.out]
            refine ⟨_, _, rfl, ?_, ?_⟩
            · show Stay F Fin fun x => IsW x _ t.step.kept
              rw [HQ.out.1]
              exact HKC.out.1.below hfin
            · show Stay F Fin fun x => IsW x _ (t.step.cache ++ [(k, pad b)])
              rw [HQ.out.2]
              have hlen : (t.cache ++ [(k, pad b)]).length = t.cache.length + 1 := by simp
              rw [← hlen]
              refine stay_own (B := M.heap.size) ?_ (fun q hq => ?_) fun k hk => by have := HF0.out k hk; have := HM.out.1.size; omega
              · rw [hlen]
                refine own_turn HCu.out.2.2.1 HT.out.1 fun j hj e => ?_
                have := (HCu.out.2.2.1.lt j hj).1
                have := HM.out.2.2.lt
                omega
              · rcases List.mem_append.1 hq with hq | hq
                · exact HKC.out.2.1.now.len q hq
                · rw [List.mem_singleton] at hq
                  rw [hq]
                  exact HPad.out
end Ta
end Go.Proofs.Ytkfmmdiflbnhgaa

namespace Go.Proofs.Ytkfmmdiflbnhgaa
set_option maxRecDepth 100000
open Go.RowKit
namespace Ta
open Knot (Turns NewRow)
open Tr (IsElem append_rows walk_rows own_turn own_below own_slice own_open addp)
abbrev tBy : TypeId := 5
abbrev tBs : TypeId := 22
section
variable {w x y z Y z1 z2 : World} {p R n j j' : Nat} {t t' : Tray (List UInt8)} {F F' G : Nat → Prop} {kv cv kv' cv' : Value}
/-- Both trays behind j acts: the program's lies in F; the document's in a box R, its lists stay, whatever of G, and of R, turns. -/
structure Pl (w y : World) (p R n : Nat) (t : Tray (List UInt8)) (F G : Nat → Prop) (kv cv : Value) (j : Nat) : Prop where
  below : Below w.heap.size w y
  is : IsT y p n t F
  sub : ∀ k, F k → G k
  low : ∀ k, G k → k < y.heap.size
  new : ∀ k, G k → w.heap.size ≤ k
  few : t.kept.length + t.cache.length ≤ j
  box : C5 R tTr (.int .i64 n) kv cv (.int .i64 t.left) (.bool t.dark) y
  off : w.heap.size ≤ R ∧ ¬ G R
  dk : Stay (fun k => G k ∨ k = R) y fun x => IsW x kv t.kept
  dc : Stay (fun k => G k ∨ k = R) y fun x => IsW x cv t.cache
theorem Pl.on (h : Pl w y p R n t F G kv cv j) (hb : Below y.heap.size y z) : Pl w z p R n t F G kv cv j :=
  ⟨h.below.trans (hb.mono h.below.size), h.is.below hb, h.sub, fun k hk => Nat.lt_of_lt_of_le (h.low k hk) hb.size, h.new, h.few, h.box.on hb, h.off, h.dk.below hb, h.dc.below hb⟩
theorem Pl.more (h : Pl w y p R n t F G kv cv j) (hj : j ≤ j') : Pl w y p R n t F G kv cv j' := { h with few := Nat.le_trans h.few hj }
/-- A block of the call's own, that neither tray lies in, turns. -/
theorem Pl.scratch {g : Nat} (h : Pl w y p R n t F G kv cv j) (hg : G g) (hn : ¬ F g) (ht : Turns (fun k => k = g) y z) : Pl w z p R n t F G kv cv j := by
  have hR : g ≠ R := fun e => h.off.2 (e ▸ hg)
  have ht' : Turns (fun k => G k ∨ k = R) y z := ht.mono fun _ _ e => .inl (e ▸ hg)
  exact ⟨h.below.trans (ht.below h.below.size fun k e => by rw [e]; exact h.new g hg), h.is.turn ht fun k hk e => hn (e ▸ hk), h.sub, fun k hk => Nat.lt_of_lt_of_le (h.low k hk) ht.size, h.new, h.few, h.box.turn ht fun e => hR e.symm, h.off, h.dk.turn ht', h.dc.turn ht'⟩
/-- The document's tray, when blocks of G have turned, and others have come. -/
theorem Pl.doc (h : Pl w Y p R n t F G kv cv j) (ht : Turns G Y z1) : IsD (fun k => Grow G Y z1 k ∨ k = R) z1 (trV n kv cv t.left t.dark) n t ∧ ∀ k, (Grow G Y z1 k ∨ k = R) → k < z1.heap.size := by
  have hR := h.box.lt
  have ht' : Turns (fun k => G k ∨ k = R) Y z1 := ht.mono fun _ _ h => .inl h
  have hs : ∀ k, k < Y.heap.size → (Grow G Y z1 k ∨ k = R) → G k ∨ k = R := fun k hk hg => by
    rcases hg with (hg | hg) | hg
    · exact .inl hg
    · omega
    · exact .inr hg
  refine ⟨⟨kv, cv, rfl, h.dk.grow ht' hs, h.dc.grow ht' hs⟩, fun k hk => ?_⟩
  have := ht.size
  rcases hk with (hk | hk) | hk
  · have := h.low k hk; omega
  · exact hk.2
  · omega
/-- Behind an act. -/
theorem Pl.step {p' : Nat} (h : Pl w Y p R n t F G kv cv j) (ht : Turns G Y z1) (hi : IsT z1 p' n t' F') (hs : ∀ k, F' k → F k ∨ Y.heap.size ≤ k) (hb : Below z1.heap.size z1 z2)
    (hk : Stay (fun k => Grow G Y z1 k ∨ k = R) z2 fun x => IsW x kv' t'.kept) (hc : Stay (fun k => Grow G Y z1 k ∨ k = R) z2 fun x => IsW x cv' t'.cache) (hf : t'.kept.length + t'.cache.length ≤ j') :
    Pl w (st5 z2 R (.int .i64 n) kv' cv' (.int .i64 t'.left) (.bool t'.dark)) p' R n t' F' (Grow G Y z1) kv' cv' j' := by
  have hR := h.box.lt
  have hnR : ¬ Grow G Y z1 R := fun hg => hg.elim h.off.2 fun hg => by omega
  have h5 := st5_turns z2 R (.int .i64 n) kv' cv' (.int .i64 t'.left) (.bool t'.dark)
  have hbox : C5 R tTr (.int .i64 n) kv cv (.int .i64 t.left) (.bool t.dark) z2 := (h.box.turn ht h.off.2).on hb
  have hb1 := ht.size
  have hb2 := hb.size
  have hb3 := h5.size
  have hw := h.below.size
  have hsub : ∀ k, F' k → Grow G Y z1 k := fun k hk => (hs k hk).elim (fun hk => .inl (h.sub k hk)) fun hge => .inr ⟨hge, hi.low k hk⟩
  have h5' : Turns (fun k => Grow G Y z1 k ∨ k = R) z2 (st5 z2 R (.int .i64 n) kv' cv' (.int .i64 t'.left) (.bool t'.dark)) := h5.mono fun _ _ e => .inr e
  refine ⟨((h.below.trans (ht.below hw h.new)).trans (hb.mono (by omega))).trans (h5.below (by omega) fun k e => by rw [e]; exact h.off.1), (hi.below hb).turn h5 fun k hk e => hnR (e ▸ hsub k hk), hsub, fun k hk => ?_, fun k hk => hk.elim (h.new k) fun hk => by omega, hf, hbox.put _ _ _ _ _, ⟨h.off.1, hnR⟩, hk.turn h5', hc.turn h5'⟩
  rcases hk with hk | hk
  · have := h.low k hk; omega
  · have := hk.2; omega
/-- The program's call turns blocks of F. -/
theorem Pl.turns (h : Pl w Y p R n t F G kv cv j) (ht : Turns F Y z1) : Turns G Y z1 := ht.mono fun k _ hk => h.sub k hk
end

/-! ### the document's calls, with their trays -/
theorem dpower_any (F : Nat → Prop) (n : Int) (v : Value) (t : Tray (List UInt8)) (z : Int) (w : World) (h : IsD F w v n t) :
    Calls Try.prog 27 #[v, .int .i64 z] w fun e x => ∃ v', e = .returned (.tuple #[v', .int .i64 (if 0 ≤ z ∧ z ≤ 1099511627776 then 0 else 1)]) ∧ IsD F x v' n (if 0 ≤ z ∧ z ≤ 1099511627776 then t.power z else t) ∧ Below w.heap.size w x := by
  obtain ⟨kv, cv, rfl, hk, hc⟩ := h
  obtain ⟨ka, kq, rfl⟩ := hk.now.slice
  obtain ⟨co, cq, rfl⟩ := hc.now.slice
  refine (rpower_any n (.slice ka t.kept.length kq) (.slice co t.cache.length cq) ⟨_, _, _, rfl⟩ ⟨_, _, _, rfl⟩ t.left z t.dark _ rfl w).mono ?_
  rintro e x ⟨rfl, hb⟩
  by_cases hz : 0 ≤ z ∧ z ≤ 1099511627776
  · simp only [hz, and_self, decide_true, if_true]
    exact ⟨_, rfl, ⟨_, _, rfl, hk.below hb, hc.below hb⟩, hb⟩
  · simp only [hz, decide_false, if_false, Bool.false_eq_true]
    exact ⟨_, rfl, ⟨_, _, rfl, hk.below hb, hc.below hb⟩, hb⟩
theorem dread_any (n : Int) (kv cv : Value) (t : Tray (List UInt8)) (k : Int) (w : World) (hk : IsW w kv t.kept) (hc : IsW w cv t.cache) :
    Calls Try.prog 34 #[trV n kv cv t.left t.dark, .int .i64 k] w fun e x => e = .returned (.agg (sec (t.read nul k))) ∧ Below w.heap.size w x := by
  obtain ⟨ao, q, rfl, hk, -⟩ := hk
  obtain ⟨bo, r, rfl, hc, -⟩ := hc
  exact rread_any n ao bo q r t.kept t.cache t.left t.dark k w hk hc

/-! ### a copy of bytes that came in -/
theorem byElem : ∃ i z, IsElem Try.prog tBs tBy i z 1 1 := ⟨_, _, ⟨by kernel_rfl, rfl, rfl, by kernel_rfl, by kernel_rfl, by kernel_rfl, by omega⟩⟩
theorem empty_by (W : World) : (Instr.buildSlice tBs 0 #[]).run Try.prog W = .ok (.slice (some ⟨W.heap.size, 0, none⟩) 0 0) (W.alloc (.cells #[] tBy)) := by kernel_rfl
theorem empty_brow (w : World) : (w.alloc (.cells #[] tBy)).ownsRow w.heap.size tBy 1 (.slice (some ⟨w.heap.size, 0, none⟩) 0 0) 0 [] := World.ownsRow_made w #[] 0 (Nat.le_refl _) (by unfold maxLen; omega) rfl
theorem append_nil {P : Program} {w : World} {t e : TypeId} {i : TypeInfo} {z : Value} {sz by' : Nat} (T : IsElem P t e i z sz by') (ty : TypeId) {B n c : Nat} {v : Value} {xs : List Value} (hown : w.ownsRow B e sz v n xs) (hs : n ≤ 100000000) :
    (Builtin.append_ #[t, t] ty #[v, .slice none 0 c]).run P w = .ok v w := by
  rcases hown.2 with ⟨rfl, rfl⟩ | ⟨g, cap, cur, rfl, hbg, hg, hnc, hcm, hcs, htake⟩
  · simp [Builtin.append_, run_underlying T.under, sizeOf, typeInfo, T.info, Builtin.lenOf, Builtin.firstCells]
  · have h1 : ¬ (9223372036854775807 < (n : Int)) := by omega
    simp [Builtin.append_, run_underlying T.under, sizeOf, typeInfo, T.info, Builtin.lenOf, Builtin.firstCells, loadCells, hnc, storeCells]
theorem app_by {w : World} {B : Nat} {r v : Value} {b : List UInt8} (hown : w.ownsRow B tBy 1 r 0 []) (hB : B ≤ w.heap.size) (h : IsBytes w v b) (ty : TypeId) (hz : b.length ≤ 1000000) :
    ∃ r' y, (Builtin.append_ #[tBs, tBs] ty #[r, v]).run Try.prog w = .ok r' y ∧ y.ownsRow B tBy 1 r' b.length (Lib.byteCells b) ∧ w.grownBy y r.ownBlock ∧ NewRow w r r' := by
  obtain ⟨i, z, T⟩ := byElem
  obtain ⟨ao, cap, rfl, h1, h2, h3⟩ := h
  by_cases hb : b.length = 0
  · obtain rfl : b = [] := List.eq_nil_of_length_eq_zero hb
    cases ao with
    | none => exact ⟨r, w, append_nil T ty hown (by omega), hown, ⟨rfl, rfl, rfl, Nat.le_refl _, fun _ _ _ => rfl⟩, NewRow.refl _ _⟩
    | some a =>
      have := append_rows T ty hown hB (m := 0) (news := []) (ad := a) (c := cap) rfl (fun j u hj => by simp at hj) (fun u hu => by simp at hu) (by omega) (by omega)
      simpa [Lib.byteCells] using this
  · obtain ⟨g, o, rfl, hc⟩ := h3 hb
    have := append_rows T ty hown hB (m := b.length) (news := Lib.byteCells b) (ad := ⟨g, o, none⟩) (c := cap) (by rw [Lib.byteCells_length]; omega) (fun j u hj => by rw [addp]; exact hc j u hj) (one_bytes b) (by omega) (by omega)
    simpa using this
theorem walk_by {ops : Array Oper} {rest : List Oper} {o : Oper} {a : Go.Act} {w : World} {Q : Exit → Go.Act → World → Prop} {B : Nat} {r v : Value} {b : List UInt8} (hgd : o.guard = none) (s q : Operand) (ho : o.op = .call { callee := .builtin .append, args := #[s, q], argTypes := #[tBs, tBs] })
    (hs : a.eval s = r) (hq : a.eval q = v) (hown : w.ownsRow B tBy 1 r 0 []) (hB : B ≤ w.heap.size) (h : IsBytes w v b) (hz : b.length ≤ 1000000)
    (hK : ∀ r' y, y.ownsRow B tBy 1 r' b.length (Lib.byteCells b) → w.grownBy y r.ownBlock → NewRow w r r' → wpList Try.prog ops Q rest (a.put o.dst r') y) : wpList Try.prog ops Q (o :: rest) a w := by
  refine wpList_plain hgd fun K hK' => ?_
  obtain ⟨r', y, hr, h2, h3, h4⟩ := app_by hown hB h o.type hz
  unfold Oper.wp execOp
  simp only [ho, resolve, invoke, builtin, Sem.run_bind, Sem.run_pure, Result.andThen_ok, List.map_toArray, List.map_cons, List.map_nil, hs, hq, hr]
  exact hK' _ _ (hK r' y h2 h3 h4)
/-- Bytes of one's own, as bytes that stay. -/
theorem own_bytes {w : World} {B : Nat} {F : Nat → Prop} {v : Value} {b : List UInt8} (h : w.ownsRow B tBy 1 v b.length (Lib.byteCells b)) (hF : ∀ k, F k → k < B) : Stay F w fun x => IsBytes x v b := fun z hz => by
  have h' := own_turn h hz fun k hk hf => by have := (h.lt k hk).1; have := hF k hf; omega
  rcases h'.2 with ⟨rfl, h0⟩ | ⟨g, cap, cur, rfl, hb, hg, hn, hc, hs, ht⟩
  · obtain rfl : b = [] := List.eq_nil_of_length_eq_zero h0
    exact ⟨none, 0, rfl, Nat.le_refl _, Nat.zero_le _, fun h => absurd rfl h⟩
  · refine ⟨_, cap, rfl, hn, hc, fun _ => ⟨g, 0, rfl, fun j u hj => ?_⟩⟩
    have hr : z.ownsRow B tBy 1 (.slice (some ⟨g, 0, none⟩) b.length cap) b.length (Lib.byteCells b) := h'
    have hj' := (List.getElem?_eq_some_iff.1 hj).1
    rw [Lib.byteCells_length] at hj'
    rw [Nat.zero_add, hr.cellAt j (by omega)]
    exact hj
end Ta
end Go.Proofs.Ytkfmmdiflbnhgaa
