/-
  Layer 12's document: Lose.
-/
import Derived.Test.YtdodmjcbjknneaaTaDflush
import Derived.Test.YtdodmjcbjknneaaTaNote
namespace Go.Proofs.Ytdodmjcbjknneaa
set_option maxRecDepth 100000
open Go.RowKit
namespace Ta
open Knot (Turns NewRow)
open Tr (IsElem append_rows wp_rows own_turn own_below own_slice own_open addp)
section
variable {R B m : Nat} {a b c d e r : Value} {x y : World} {xs : List Value}
theorem C5.app (h : C5 R tTr a b c d e x) (ho : x.ownsRow B tDw 129 r m xs) (g : x.grownBy y r.ownBlock) : C5 R tTr a b c d e y :=
  h.turn (Turns.of_grown (F := fun k => r.ownBlock = some k) g fun k hk => hk) fun hk => by
    obtain ⟨cur, hc⟩ := own_heap ho hk
    exact heap_ne hc h (by decide) rfl
end
theorem dw_at {w : World} {ao : Option Addr} {l : List (Int × List UInt8)} (h : Wrs w ao l) (cap : Nat) {i : Nat} (hi : i < l.length) :
    ∃ g q, (∀ W, (Instr.indexAt tDs (.slice ao l.length cap) (.int .i64 (i : Int))).run Try.prog W = .ok (.pointer (some ⟨g, q, none⟩)) W) ∧ ∀ x, Below w.heap.size w x → (Instr.loadAt tDw (.pointer (some ⟨g, q, none⟩))).run Try.prog x = .ok (.agg (wrc l[i].1 l[i].2)) x := by
  obtain ⟨g, q, hix, h1, h2⟩ := h.at cap hi
  refine ⟨g, q, hix, fun x hx => load_dw x g q _ _ (h.len _ (List.getElem_mem hi)) fun j u hj => ?_⟩
  have key : w.cell? ⟨g, q + j, none⟩ = some u := by
    simp only [wrc] at hj
    cases j with
    | zero => exact h1.trans hj
    | succ j =>
      have := h2 j u hj
      rwa [show q + 1 + j = q + (j + 1) by omega] at this
  exact (hx.cell (World.block_lt_of_cell? w _ key)).trans key

set_option maxHeartbeats 8000000 in
set_option maxRecDepth 100000 in
theorem dlose_any (F : Nat → Prop) (n : Int) (v : Value) (t : Tray (List UInt8)) (cv' : Value) (cs : List Bool) (w : World) (hFl0 : ∀ k, F k → k < w.heap.size) (h : IsD F w v n t) (hf : IsFlags w cv' cs) (hz : t.kept.length + t.cache.length ≤ 100000) :
    Calls Try.prog 24 #[v, cv'] w fun e x => ∃ v', e = .returned v' ∧ IsD F x v' n (t.lose cs) ∧ Below w.heap.size w x := by
  obtain ⟨kv, cv, rfl, hk, hc⟩ := h
  obtain ⟨ka, kq, rfl⟩ := hk.now.slice
  obtain ⟨co, cq, rfl⟩ := hc.now.slice
  have HFl := Lib.hid hf
  obtain ⟨fo, fq, rfl, hf1, hf2, -⟩ := hf
  have hfl : cs.length ≤ 9223372036854775807 := Nat.le_trans hf1 (Nat.le_trans hf2 (by decide))
  have HKC := Lib.hid (And.intro hk (And.intro hc hz))
  have HF0 := Lib.hid hFl0
  clear hFl0
  obtain ⟨Y, hY⟩ : ∃ X, X = (w.alloc (.cells #[.int .i64 n, .slice ka t.kept.length kq, .slice co t.cache.length cq, .int .i64 t.left, .bool t.dark] tTr)).alloc (.cells #[.int .i64 0, .slice none 0 0, .slice none 0 0, .int .i64 0, .bool false] tTr) := ⟨_, rfl⟩
  have h2 := two5 w (.cells #[.int .i64 n, .slice ka t.kept.length kq, .slice co t.cache.length cq, .int .i64 t.left, .bool t.dark] tTr) tTr (.int .i64 0) (.slice none 0 0) (.slice none 0 0) (.int .i64 0) (.bool false)
  have hR : C5 w.heap.size tTr (.int .i64 n) (.slice ka t.kept.length kq) (.slice co t.cache.length cq) (.int .i64 t.left) (.bool t.dark) Y := by
    rw [hY]
    exact C5.on (x := w.alloc _) (heap_alloc_new w _) ((Below.refl _ _).alloc (Nat.le_refl _) _)
  rw [← hY] at h2
  have HY := Lib.hid (And.intro h2.2 (And.intro hR h2.1))
  clear hk hc hz hR h2 hf1 hf2
  go_enter Try.func24, Try.ntmps24
  unfold trV
  go_upto_region 1 with fail
  rw [← hY]
  clear hY
  have HF := Lib.hid (show ∀ x, Below Y.heap.size Y x → x.cell? ⟨w.heap.size, 0, none⟩ = some (.int .i64 n) ∧ x.cell? ⟨w.heap.size, 1, none⟩ = some (.slice ka t.kept.length kq) from fun x hx => ⟨(HY.out.2.1.on hx).cells.1, (HY.out.2.1.on hx).cells.2.1⟩)
  go_cut [5] (fun s5 wx => ∃ (R3 : Nat) (a5 : Option Addr) (p5 : Nat), s5 = .pointer (some ⟨R3, 0, none⟩) ∧ Hid (C5 R3 tTr (.int .i64 n) (.slice a5 t.kept.length p5) (.slice none 0 0) (.int .i64 (-1)) (.bool false) wx ∧ Y.heap.size ≤ R3 ∧ wx.ownsRow Y.heap.size tDw 129 (.slice a5 t.kept.length p5) t.kept.length (wcells t.kept) ∧ Below Y.heap.size Y wx))
  case first =>
    refine Order.beginE (fun x => Below Y.heap.size Y x) [8] (by kernel_rfl) ?_
    refine Order.readsE_any (idx := [0, 1, 3, 4]) (by kernel_rfl) (Below.refl _ _).drew (fun _ _ _ _ _ h => Order.noPanic_put h) 5 _ _ (by decide +kernel) ?_
    simp only [Order.pick, List.getElem?_toArray, List.getElem?_cons_zero, List.getElem?_cons_succ]
    repeat (first
      | (refine Order.reads_off (by rfl) ?_
         simp only [Act.put, List.setIfInBounds_toArray, List.set_cons_zero, List.set_cons_succ])
      | (apply Order.reads_on
         · rfl
         · intro x hx
           first
             | (obtain ⟨q0, q1⟩ := HF.out x hx
                exact Order.load_at rfl rfl (by assumption))
             | (go_simp; rfl)
             | (obtain ⟨q0, q1⟩ := HF.out x hx
                go_simp; rfl)
         simp only [Act.put, List.setIfInBounds_toArray, List.set_cons_zero, List.set_cons_succ]))
    refine Order.reads_end ?_
    have HB0 := Lib.hid (show Below Y.heap.size Y Y.drew from (Below.refl _ _).drew)
    apply Order.actE2 (i := 2) (j := 7)
    · rfl
    · rfl
    · decide +kernel
    · rfl
    · rfl
    · simp only [List.getElem_toArray, List.getElem_cons_succ, List.getElem_cons_zero]
      refine Order.wp_lit0 rfl (empty_dw _) ?_
      have al : Below Y.drew.heap.size Y.drew (Y.drew.alloc (.cells #[] tDw)) := (Below.refl _ _).alloc (Nat.le_refl _) _
      have hb : Below Y.heap.size Y (Y.drew.alloc (.cells #[] tDw)) := HB0.out.trans (al.mono HB0.out.size)
      have ho := own_base (empty_row Y.drew) (show Y.heap.size ≤ Y.drew.heap.size from HB0.out.size)
      refine ⟨hb, ?_⟩
      have HB1 := Lib.hid hb
      have HO := Lib.hid ho
      clear hb ho al
      generalize Y.drew.alloc (.cells #[] tDw) = V1 at *
      generalize Y.drew.heap.size = E0 at *
      apply Order.actE2 (i := 5) (j := 7)
      · rfl
      · rfl
      · decide +kernel
      · rfl
      · rfl
      · simp only [List.getElem_toArray, List.getElem_cons_succ, List.getElem_cons_zero]
        refine wp_app _ _ rfl rfl rfl HO.out HB1.out.size (HKC.out.1.now.below (HY.out.1.trans (HB1.out.mono HY.out.1.size))) (by have := HKC.out.2.2; omega) ?_
        intro r5 V2 o5 g5 n5
        rw [Nat.zero_add, List.nil_append] at o5
        have hb : Below Y.heap.size Y V2 := HB1.out.grown g5 HB1.out.size fun k hk => (HO.out.lt k hk).1
        refine ⟨hb, ?_⟩
        obtain ⟨a5, p5, rfl⟩ := own_slice o5
        have HB2 := Lib.hid hb
        replace HO := Lib.hid o5
        clear hb o5 g5 n5
        refine Order.readsE_any (idx := [6]) (by kernel_rfl) HB2.out (fun _ _ _ _ _ h => Order.noPanic_put h) 2 _ _ (by decide +kernel) ?_
        simp only [Order.pick, List.getElem?_toArray, List.getElem?_cons_zero, List.getElem?_cons_succ]
        repeat (first
          | (refine Order.reads_off (by rfl) ?_
             simp only [Act.put, List.setIfInBounds_toArray, List.set_cons_zero, List.set_cons_succ])
          | (apply Order.reads_on
             · rfl
             · intro x hx
               first
                 | (go_simp; rfl)
                 | (fail
                    go_simp; rfl)
             simp only [Act.put, List.setIfInBounds_toArray, List.set_cons_zero, List.set_cons_succ]))
        refine Order.reads_end ?_
        apply Order.actE (i := 7)
        · rfl
        · decide +kernel
        · rfl
        simp only [List.getElem_toArray, List.getElem_cons_succ, List.getElem_cons_zero]
        unfold Oper.wp
        go_simp
        have al : Below V2.heap.size V2 (V2.alloc (.cells #[.int .i64 0, .slice none 0 0, .slice none 0 0, .int .i64 0, .bool false] tTr)) := (Below.refl _ _).alloc (Nat.le_refl _) _
        have hb : Below Y.heap.size Y (V2.alloc (.cells #[.int .i64 0, .slice none 0 0, .slice none 0 0, .int .i64 0, .bool false] tTr)) := HB2.out.trans (al.mono HB2.out.size)
        have hr : C5 V2.heap.size tTr (.int .i64 0) (.slice none 0 0) (.slice none 0 0) (.int .i64 0) (.bool false) (V2.alloc (.cells #[.int .i64 0, .slice none 0 0, .slice none 0 0, .int .i64 0, .bool false] tTr)) := heap_alloc_new V2 _
        have HL := Lib.hid (show Y.heap.size ≤ V2.heap.size from HB2.out.size)
        refine ⟨hb, ?_⟩
        replace HO := Lib.hid (own_below HO.out al)
        have HB3 := Lib.hid hb
        have HR := Lib.hid hr
        clear hb hr al
        change Order.wpAnyE _ _ _ _ _ _ _ _ _ (V2.alloc (.cells #[.int .i64 0, .slice none 0 0, .slice none 0 0, .int .i64 0, .bool false] tTr))
        generalize V2.alloc (.cells #[.int .i64 0, .slice none 0 0, .slice none 0 0, .int .i64 0, .bool false] tTr) = V3 at *
        generalize V2.heap.size = R3 at *
        obtain ⟨d0, d1, d2, d3, d4⟩ := HR.out.cells
        obtain ⟨f0, f1, f2, f3, f4⟩ := HR.out.free
        apply Order.lastE (i := 8)
        · rfl
        · decide +kernel
        · decide
        · rfl
        unfold Oper.wp
        go_simp
        refine Order.doneE (by decide +kernel) ?_ _
        refine NoPanic.normal ?_
        change Exit.then _ _ _ _ (st5 V3 R3 (.int .i64 n) (.slice a5 t.kept.length p5) (.slice none 0 0) (.int .i64 (-1)) (.bool false))
        have HE := Lib.hid (And.intro (HR.out.put (.int .i64 n) (.slice a5 t.kept.length p5) (.slice none 0 0) (.int .i64 (-1)) (.bool false)) (st5_turns V3 R3 (.int .i64 n) (.slice a5 t.kept.length p5) (.slice none 0 0) (.int .i64 (-1)) (.bool false)))
        clear d0 d1 d2 d3 d4 f0 f1 f2 f3 f4
        generalize st5 V3 R3 (.int .i64 n) (.slice a5 t.kept.length p5) (.slice none 0 0) (.int .i64 (-1)) (.bool false) = Fin at *
        go_wp2_with fail
        go_meet
        case rel =>
          refine ⟨R3, a5, p5, rfl, Lib.hid ⟨HE.out.1, HL.out, own_turn HO.out HE.out.2 fun k hk e => ?_, HB3.out.trans (HE.out.2.below (B := Y.heap.size) HB3.out.size fun k e => by rw [e]; exact HL.out)⟩⟩
          obtain ⟨cur, hc⟩ := own_heap HO.out hk
          exact heap_ne hc HR.out (by decide) e
      · simp only [List.getElem_toArray, List.getElem_cons_succ, List.getElem_cons_zero]
        unfold Oper.wp
        go_simp
        have al : Below V1.heap.size V1 (V1.alloc (.cells #[.int .i64 0, .slice none 0 0, .slice none 0 0, .int .i64 0, .bool false] tTr)) := (Below.refl _ _).alloc (Nat.le_refl _) _
        have hb : Below Y.heap.size Y (V1.alloc (.cells #[.int .i64 0, .slice none 0 0, .slice none 0 0, .int .i64 0, .bool false] tTr)) := HB1.out.trans (al.mono HB1.out.size)
        have hr : C5 V1.heap.size tTr (.int .i64 0) (.slice none 0 0) (.slice none 0 0) (.int .i64 0) (.bool false) (V1.alloc (.cells #[.int .i64 0, .slice none 0 0, .slice none 0 0, .int .i64 0, .bool false] tTr)) := heap_alloc_new V1 _
        have HL := Lib.hid (show Y.heap.size ≤ V1.heap.size from HB1.out.size)
        refine ⟨hb, ?_⟩
        replace HO := Lib.hid (own_below HO.out al)
        have HB2 := Lib.hid hb
        have HR := Lib.hid hr
        clear hb hr al
        change Order.wpAnyE _ _ _ _ _ _ _ _ _ (V1.alloc (.cells #[.int .i64 0, .slice none 0 0, .slice none 0 0, .int .i64 0, .bool false] tTr))
        generalize V1.alloc (.cells #[.int .i64 0, .slice none 0 0, .slice none 0 0, .int .i64 0, .bool false] tTr) = V2 at *
        generalize V1.heap.size = R3 at *
        apply Order.actE (i := 5)
        · rfl
        · decide +kernel
        · rfl
        simp only [List.getElem_toArray, List.getElem_cons_succ, List.getElem_cons_zero]
        refine wp_app _ _ rfl rfl rfl HO.out HB2.out.size (HKC.out.1.now.below (HY.out.1.trans (HB2.out.mono HY.out.1.size))) (by have := HKC.out.2.2; omega) ?_
        intro r5 V3 o5 g5 n5
        rw [Nat.zero_add, List.nil_append] at o5
        have hb : Below Y.heap.size Y V3 := HB2.out.grown g5 HB2.out.size fun k hk => (HO.out.lt k hk).1
        refine ⟨hb, ?_⟩
        obtain ⟨a5, p5, rfl⟩ := own_slice o5
        replace HR := Lib.hid (HR.out.app HO.out g5)
        have HB3 := Lib.hid hb
        replace HO := Lib.hid o5
        clear hb o5 g5 n5
        refine Order.readsE_any (idx := [6]) (by kernel_rfl) HB3.out (fun _ _ _ _ _ h => Order.noPanic_put h) 1 _ _ (by decide +kernel) ?_
        simp only [Order.pick, List.getElem?_toArray, List.getElem?_cons_zero, List.getElem?_cons_succ]
        repeat (first
          | (refine Order.reads_off (by rfl) ?_
             simp only [Act.put, List.setIfInBounds_toArray, List.set_cons_zero, List.set_cons_succ])
          | (apply Order.reads_on
             · rfl
             · intro x hx
               first
                 | (go_simp; rfl)
                 | (fail
                    go_simp; rfl)
             simp only [Act.put, List.setIfInBounds_toArray, List.set_cons_zero, List.set_cons_succ]))
        refine Order.reads_end ?_
        obtain ⟨d0, d1, d2, d3, d4⟩ := HR.out.cells
        obtain ⟨f0, f1, f2, f3, f4⟩ := HR.out.free
        apply Order.lastE (i := 8)
        · rfl
        · decide +kernel
        · decide
        · rfl
        unfold Oper.wp
        go_simp
        refine Order.doneE (by decide +kernel) ?_ _
        refine NoPanic.normal ?_
        change Exit.then _ _ _ _ (st5 V3 R3 (.int .i64 n) (.slice a5 t.kept.length p5) (.slice none 0 0) (.int .i64 (-1)) (.bool false))
        have HE := Lib.hid (And.intro (HR.out.put (.int .i64 n) (.slice a5 t.kept.length p5) (.slice none 0 0) (.int .i64 (-1)) (.bool false)) (st5_turns V3 R3 (.int .i64 n) (.slice a5 t.kept.length p5) (.slice none 0 0) (.int .i64 (-1)) (.bool false)))
        clear d0 d1 d2 d3 d4 f0 f1 f2 f3 f4
        generalize st5 V3 R3 (.int .i64 n) (.slice a5 t.kept.length p5) (.slice none 0 0) (.int .i64 (-1)) (.bool false) = Fin at *
        go_wp2_with fail
        go_meet
        case rel =>
          refine ⟨R3, a5, p5, rfl, Lib.hid ⟨HE.out.1, HL.out, own_turn HO.out HE.out.2 fun k hk e => ?_, HB3.out.trans (HE.out.2.below (B := Y.heap.size) HB3.out.size fun k e => by rw [e]; exact HL.out)⟩⟩
          obtain ⟨cur, hc⟩ := own_heap HO.out hk
          exact heap_ne hc HR.out (by decide) e
    · simp only [List.getElem_toArray, List.getElem_cons_succ, List.getElem_cons_zero]
      unfold Oper.wp
      go_simp
      have al : Below Y.drew.heap.size Y.drew (Y.drew.alloc (.cells #[.int .i64 0, .slice none 0 0, .slice none 0 0, .int .i64 0, .bool false] tTr)) := (Below.refl _ _).alloc (Nat.le_refl _) _
      have hb : Below Y.heap.size Y (Y.drew.alloc (.cells #[.int .i64 0, .slice none 0 0, .slice none 0 0, .int .i64 0, .bool false] tTr)) := HB0.out.trans (al.mono HB0.out.size)
      have hr : C5 Y.heap.size tTr (.int .i64 0) (.slice none 0 0) (.slice none 0 0) (.int .i64 0) (.bool false) (Y.drew.alloc (.cells #[.int .i64 0, .slice none 0 0, .slice none 0 0, .int .i64 0, .bool false] tTr)) := heap_alloc_new Y.drew _
      have HL := Lib.hid (show Y.heap.size ≤ Y.heap.size from HB0.out.size)
      refine ⟨hb, ?_⟩
      have HB1 := Lib.hid hb
      have HR := Lib.hid hr
      clear hb hr al
      change Order.wpAnyE _ _ _ _ _ _ _ _ _ (Y.drew.alloc (.cells #[.int .i64 0, .slice none 0 0, .slice none 0 0, .int .i64 0, .bool false] tTr))
      generalize Y.drew.alloc (.cells #[.int .i64 0, .slice none 0 0, .slice none 0 0, .int .i64 0, .bool false] tTr) = V1 at *
      apply Order.actE (i := 2)
      · rfl
      · decide +kernel
      · rfl
      simp only [List.getElem_toArray, List.getElem_cons_succ, List.getElem_cons_zero]
      refine Order.wp_lit0 rfl (empty_dw _) ?_
      have al : Below V1.heap.size V1 (V1.alloc (.cells #[] tDw)) := (Below.refl _ _).alloc (Nat.le_refl _) _
      have hb : Below Y.heap.size Y (V1.alloc (.cells #[] tDw)) := HB1.out.trans (al.mono HB1.out.size)
      have ho := own_base (empty_row V1) (show Y.heap.size ≤ V1.heap.size from HB1.out.size)
      refine ⟨hb, ?_⟩
      replace HR := Lib.hid (HR.out.on al)
      have HB2 := Lib.hid hb
      have HO := Lib.hid ho
      clear hb ho al
      generalize V1.alloc (.cells #[] tDw) = V2 at *
      generalize V1.heap.size = E0 at *
      apply Order.actE (i := 5)
      · rfl
      · decide +kernel
      · rfl
      simp only [List.getElem_toArray, List.getElem_cons_succ, List.getElem_cons_zero]
      refine wp_app _ _ rfl rfl rfl HO.out HB2.out.size (HKC.out.1.now.below (HY.out.1.trans (HB2.out.mono HY.out.1.size))) (by have := HKC.out.2.2; omega) ?_
      intro r5 V3 o5 g5 n5
      rw [Nat.zero_add, List.nil_append] at o5
      have hb : Below Y.heap.size Y V3 := HB2.out.grown g5 HB2.out.size fun k hk => (HO.out.lt k hk).1
      refine ⟨hb, ?_⟩
      obtain ⟨a5, p5, rfl⟩ := own_slice o5
      replace HR := Lib.hid (HR.out.app HO.out g5)
      have HB3 := Lib.hid hb
      replace HO := Lib.hid o5
      clear hb o5 g5 n5
      refine Order.readsE_any (idx := [6]) (by kernel_rfl) HB3.out (fun _ _ _ _ _ h => Order.noPanic_put h) 1 _ _ (by decide +kernel) ?_
      simp only [Order.pick, List.getElem?_toArray, List.getElem?_cons_zero, List.getElem?_cons_succ]
      repeat (first
        | (refine Order.reads_off (by rfl) ?_
           simp only [Act.put, List.setIfInBounds_toArray, List.set_cons_zero, List.set_cons_succ])
        | (apply Order.reads_on
           · rfl
           · intro x hx
             first
               | (go_simp; rfl)
               | (fail
                  go_simp; rfl)
           simp only [Act.put, List.setIfInBounds_toArray, List.set_cons_zero, List.set_cons_succ]))
      refine Order.reads_end ?_
      obtain ⟨d0, d1, d2, d3, d4⟩ := HR.out.cells
      obtain ⟨f0, f1, f2, f3, f4⟩ := HR.out.free
      apply Order.lastE (i := 8)
      · rfl
      · decide +kernel
      · decide
      · rfl
      unfold Oper.wp
      go_simp
      refine Order.doneE (by decide +kernel) ?_ _
      refine NoPanic.normal ?_
      change Exit.then _ _ _ _ (st5 V3 Y.heap.size (.int .i64 n) (.slice a5 t.kept.length p5) (.slice none 0 0) (.int .i64 (-1)) (.bool false))
      have HE := Lib.hid (And.intro (HR.out.put (.int .i64 n) (.slice a5 t.kept.length p5) (.slice none 0 0) (.int .i64 (-1)) (.bool false)) (st5_turns V3 Y.heap.size (.int .i64 n) (.slice a5 t.kept.length p5) (.slice none 0 0) (.int .i64 (-1)) (.bool false)))
      clear d0 d1 d2 d3 d4 f0 f1 f2 f3 f4
      generalize st5 V3 Y.heap.size (.int .i64 n) (.slice a5 t.kept.length p5) (.slice none 0 0) (.int .i64 (-1)) (.bool false) = Fin at *
      go_wp2_with fail
      go_meet
      case rel =>
        refine ⟨Y.heap.size, a5, p5, rfl, Lib.hid ⟨HE.out.1, HL.out, own_turn HO.out HE.out.2 fun k hk e => ?_, HB3.out.trans (HE.out.2.below (B := Y.heap.size) HB3.out.size fun k e => by rw [e]; exact HL.out)⟩⟩
        obtain ⟨cur, hc⟩ := own_heap HO.out hk
        exact heap_ne hc HR.out (by decide) e
  case rest =>
    obtain ⟨R3, a5, p5, rfl, HC⟩ := hcut
    have hRc := HY.out.2.1.on HC.out.2.2.2
    obtain ⟨-, -, c2, -⟩ := hRc.cells
    clear hRc
    go_wp2_with fail
    clear c2
    go_loopw [17] (fun vi y => ∃ (i : Nat) (r : Value) (L : List (Int × List UInt8)), i ≤ t.cache.length ∧ vi = .int .i64 (i : Int) ∧ Hid (C5 R3 tTr (.int .i64 n) r (.slice none 0 0) (.int .i64 (-1)) (.bool false) y ∧ y.ownsRow Y.heap.size tDw 129 r L.length (wcells L) ∧ Below Y.heap.size Y y) ∧ Hid (L = t.kept ++ pick (t.cache.take i) cs)) (fun vi _ => t.cache.length - (intOf vi).toNat)
    case atStart =>
      have e : pick (t.cache.take 0) cs = [] := by rw [List.take_zero]; cases cs <;> rfl
      exact ⟨0, .slice a5 t.kept.length p5, t.kept, by omega, rfl, ⟨HC.out.1, HC.out.2.2.1, HC.out.2.2.2⟩, by rw [e, List.append_nil]; rfl⟩
    case round =>
      obtain ⟨i, r, L, hi, rfl, HI, HL⟩ := hrel
      have hNR : w.heap.size + 1 < R3 := by have := HY.out.2.2.lt; have := HC.out.2.1; omega
      have HNR := Lib.hid hNR
      clear hNR
      have hcl : t.cache.length ≤ 100000 := by have := HKC.out.2.2; omega
      by_cases hlt : i < t.cache.length
      · have hpk := pick_take hlt cs
        have hpl := pick_length (t.cache.take i) cs
        rw [List.length_take] at hpl
        have hbw := HY.out.1.trans (HI.out.2.2.mono HY.out.1.size)
        obtain ⟨ao', q', e', hw, -⟩ := HKC.out.2.1.now
        obtain ⟨rfl, -, rfl⟩ := Value.slice.inj e'
        have h8 := hw.len _ (List.getElem_mem hlt)
        obtain ⟨g, q, hix, hld⟩ := dw_at hw cq hlt
        generalize hq : t.cache[i] = qq at *
        obtain ⟨k, b⟩ := qq
        simp only at h8 hld
        have HH := Lib.hid (And.intro hbw (And.intro hld (And.intro h8 (And.intro hpk hpl))))
        clear hbw hld h8 hpk hpl hw e' hq
        by_cases hjc : i < cs.length
        · have hjI : (i : Int) < (cs.length : Int) := by omega
          obtain ⟨fg, fp, hfi, hfc⟩ := flag_at HFl.out hjc
          have hfx := (HH.out.1.cell (p := ⟨fg, fp, none⟩) (World.block_lt_of_cell? w _ hfc)).trans hfc
          have hgd := getD_at hjc
          clear hfc
          cases hcj : cs[i] with
          | false =>
            rw [hcj] at hfx hgd
            have HGD := Lib.hid hgd
            clear hcj hgd hjc
            go_wp2_with fail
            go_roundw
            case rel =>
              refine ⟨i + 1, r, L, by omega, by go_num, HI, ?_⟩
              show L = _
              rw [HH.out.2.2.2.1, HGD.out, if_neg (by decide), List.append_nil]
              exact HL.out
            case measure => simp [intOf]; omega
          | true =>
            rw [hcj] at hfx hgd
            have HGD := Lib.hid hgd
            clear hcj hgd hjc
            have hoff : ∀ k, r.ownBlock = some k → Y.heap.size ≤ k ∧ k ≠ R3 := fun k hk => by
              obtain ⟨cur, hc⟩ := own_heap HI.out.2.1 hk
              exact ⟨(HI.out.2.1.lt k hk).1, heap_ne hc HI.out.1 (by decide)⟩
            obtain ⟨ra, rc, hra⟩ := own_slice HI.out.2.1
            have HF2 := Lib.hid (show ∀ x, Turns (fun k => r.ownBlock = some k) wr x → x.cell? ⟨R3, 1, none⟩ = some r ∧ x.cell? ⟨w.heap.size, 2, none⟩ = some (.slice co t.cache.length cq) ∧ (Instr.loadAt tDw (.pointer (some ⟨g, q, none⟩))).run Try.prog x = .ok (.agg (wrc k b)) x from fun x hx => by
              have hby : Below Y.heap.size Y x := HI.out.2.2.trans (hx.below (B := Y.heap.size) HI.out.2.2.size fun k hk => (hoff k hk).1)
              exact ⟨(HI.out.1.turn hx fun hk => (hoff _ hk).2 rfl).cells.2.1, (HY.out.2.1.on hby).cells.2.2.1, HH.out.2.1 x (HY.out.1.trans (hby.mono HY.out.1.size))⟩)
            have HOff := Lib.hid hoff
            have HRa := Lib.hid hra
            subst hra
            clear hoff HRa
            go_upto_region 6 with fail
            refine Order.beginE (fun x => Turns (fun k => (Value.slice ra L.length rc).ownBlock = some k) wr x) [9, 10] (by kernel_rfl) ?_
            refine Order.readsE_any (idx := [0, 1, 2, 3, 4, 5, 6]) (by kernel_rfl) (Turns.of_below (Below.refl _ _).drew) (fun _ _ _ _ _ h => Order.noPanic_put h) 4 _ _ (by decide +kernel) ?_
            simp only [Order.pick, List.getElem?_toArray, List.getElem?_cons_zero, List.getElem?_cons_succ]
            repeat (first
              | (refine Order.reads_off (by rfl) ?_
                 simp only [Act.put, List.setIfInBounds_toArray, List.set_cons_zero, List.set_cons_succ])
              | (apply Order.reads_on
                 · rfl
                 · intro x hx
                   first
                     | (obtain ⟨q0, q1, q2⟩ := HF2.out x hx
                        exact Order.load_at rfl rfl (by assumption))
                     | (go_simp; rfl)
                     | (obtain ⟨q0, q1, q2⟩ := HF2.out x hx
                        go_simp; rfl)
                 simp only [Act.put, List.setIfInBounds_toArray, List.set_cons_zero, List.set_cons_succ]))
            refine Order.reads_end ?_
            apply Order.actE (i := 7)
            · rfl
            · decide +kernel
            · rfl
            simp only [List.getElem_toArray, List.getElem_cons_succ, List.getElem_cons_zero]
            refine Order.wp_lit1 rfl rfl (one_dw _ k b HH.out.2.2.1) ?_
            have hal : Below wr.heap.size wr (wr.drew.alloc (.cells (wrc k b) tDw)) := (Below.refl _ _).drew.alloc (Nat.le_refl _) _
            have hnew : (wr.drew.alloc (.cells (wrc k b) tDw)).heap[wr.heap.size]? = some (.cells (wrc k b) tDw (0, 0)) := heap_alloc_new wr.drew _
            refine ⟨Turns.of_below hal, ?_⟩
            have H4 := Lib.hid (And.intro hal (And.intro (lit_isW hnew HH.out.2.2.1) (own_below HI.out.2.1 hal)))
            clear hal hnew
            generalize wr.drew.alloc (.cells (wrc k b) tDw) = V4 at *
            apply Order.actE (i := 8)
            · rfl
            · decide +kernel
            · rfl
            simp only [List.getElem_toArray, List.getElem_cons_succ, List.getElem_cons_zero]
            refine wp_app _ _ rfl rfl rfl H4.out.2.2 (Nat.le_trans HI.out.2.2.size H4.out.1.size) H4.out.2.1 (by have := congrArg List.length HL.out; rw [List.length_append] at this; have := HKC.out.2.2; have := HH.out.2.2.2.2; simp only [List.length_singleton]; omega) ?_
            intro r5 V5 o5 g5 n5
            change V5.ownsRow _ _ _ r5 (L.length + 1) _ at o5
            obtain ⟨a6, p6, rfl⟩ := own_slice o5
            have t5 : Turns (fun j => (Value.slice ra L.length rc).ownBlock = some j) wr V5 := (Turns.of_below H4.out.1).trans (Turns.of_grown (F := fun j => (Value.slice ra L.length rc).ownBlock = some j) g5 fun j hj => hj) fun _ _ h => h
            refine ⟨t5, ?_⟩
            have hR5 := HI.out.1.turn t5 fun hk => (HOff.out _ hk).2 rfl
            obtain ⟨-, d1, -⟩ := hR5.cells
            have f1 := hR5.free.2.1
            have H5 := Lib.hid (And.intro t5 (And.intro o5 hR5))
            clear t5 o5 g5 n5 hR5
            apply Order.lastE (i := 9)
            · rfl
            · decide +kernel
            · decide
            · rfl
            unfold Oper.wp
            go_simp
            apply Order.lastE (i := 10)
            · rfl
            · decide +kernel
            · decide
            · rfl
            unfold Oper.wp
            go_simp
            refine Order.doneE (by decide +kernel) ?_ _
            refine NoPanic.normal ?_
            clear d1 f1 HF2
            obtain ⟨V6, hV6⟩ : ∃ V6, V6 = V5.setCell ⟨R3, 1, none⟩ (.slice a6 (L.length + 1) p6) := ⟨_, rfl⟩
            have h6 := H5.out.2.2.set 1 (.slice a6 (L.length + 1) p6)
            have t6 : Turns (fun k => k = R3) V5 (V5.setCell ⟨R3, 1, none⟩ (.slice a6 (L.length + 1) p6)) := (Turns.refl (fun k => k = R3) V5).setCell (p := ⟨R3, 1, none⟩) rfl _
            have HFin := Lib.hid (And.intro h6 t6)
            rw [← hV6] at HFin
            clear h6 t6
            rw [← hV6]
            clear hV6
            go_wp2_with fail
            go_roundw
            case rel =>
              refine ⟨i + 1, .slice a6 (L.length + 1) p6, L ++ [(k, b)], by omega, by go_num, ⟨HFin.out.1, ?_, ?_⟩, ?_⟩
              · rw [wcells_append, List.length_append]
                refine own_turn H5.out.2.1 HFin.out.2 fun j hj e => ?_
                obtain ⟨cur, hc⟩ := own_heap H5.out.2.1 hj
                exact heap_ne hc H5.out.2.2 (by decide) e
              · exact (HI.out.2.2.trans (H5.out.1.below (B := Y.heap.size) HI.out.2.2.size fun j hj => (HOff.out j hj).1)).trans (HFin.out.2.below (B := Y.heap.size) (Nat.le_trans HI.out.2.2.size H5.out.1.size) fun j e => by rw [e]; exact HC.out.2.1)
              · show L ++ [(k, b)] = _
                rw [HH.out.2.2.2.1, HGD.out, if_pos rfl, ← List.append_assoc, HL.out]
            case measure => simp [intOf]; omega
        · have hjI : ¬ (i : Int) < (cs.length : Int) := by omega
          have HGD := Lib.hid (getD_past hjc)
          clear hjc
          go_wp2_with fail
          go_roundw
          case rel =>
            refine ⟨i + 1, r, L, by omega, by go_num, HI, ?_⟩
            show L = _
            rw [HH.out.2.2.2.1, HGD.out, if_neg (by decide), List.append_nil]
            exact HL.out
          case measure => simp [intOf]; omega
      · have hne : ¬ (i : Int) < (t.cache.length : Int) := by omega
        have hic : i = t.cache.length := by omega
        subst hic
        rw [List.take_length] at HL
        obtain ⟨ra, rc, rfl⟩ := own_slice HI.out.2.1
        have hM := HY.out.2.2.on HI.out.2.2
        obtain ⟨c0, c1, c2, c3, c4⟩ := HI.out.1.cells
        obtain ⟨d0, d1, d2, d3, d4⟩ := hM.cells
        obtain ⟨f0, f1, f2, f3, f4⟩ := hM.free
        have HT := Lib.hid (And.intro (st5_turns wr (w.heap.size + 1) (.int .i64 n) (.slice ra L.length rc) (.slice none 0 0) (.int .i64 (-1)) (.bool false)) (hM.put (.int .i64 n) (.slice ra L.length rc) (.slice none 0 0) (.int .i64 (-1)) (.bool false)))
        clear hM hlt
        go_wp2_with fail
        change bodyPost _ _ _ _ _ (st5 wr (w.heap.size + 1) (.int .i64 n) (.slice ra L.length rc) (.slice none 0 0) (.int .i64 (-1)) (.bool false))
        clear c0 c1 c2 c3 c4 d0 d1 d2 d3 d4 f0 f1 f2 f3 f4
        generalize st5 wr (w.heap.size + 1) (.int .i64 n) (.slice ra L.length rc) (.slice none 0 0) (.int .i64 (-1)) (.bool false) = Fin at *
        obtain ⟨g0, g1, g2, g3, g4⟩ := HT.out.2.cells
        have hfin : Below w.heap.size w Fin := (HY.out.1.trans (HI.out.2.2.mono HY.out.1.size)).trans (HT.out.1.below (B := w.heap.size) (by have := HY.out.1.size; have := HI.out.2.2.size; omega) fun k e => by omega)
        refine bodyPost_ret (v := .agg #[.int .i64 n, .slice ra L.length rc, .slice none 0 0, .int .i64 (-1), .bool false]) (by simp [results, Try.results24, go_sem, g0, g1, g2, g3, g4]) rfl ⟨_, rfl, ⟨_, _, rfl, ?_, stay_nil _ _⟩, hfin⟩
        show Stay F Fin fun x => IsW x _ (t.kept ++ pick t.cache cs)
        rw [← HL.out]
        refine stay_own (B := Y.heap.size) (own_turn HI.out.2.1 HT.out.1 fun k hk e => ?_) (fun q hq => ?_) fun k hk => by have := HF0.out k hk; have := HY.out.1.size; omega
        · have := (HI.out.2.1.lt k hk).1
          have := HY.out.2.2.lt
          omega
        · rw [HL.out] at hq
          exact (List.mem_append.1 hq).elim (HKC.out.1.now.len q) fun hq => HKC.out.2.1.now.len q (pick_mem hq)
end Ta
end Go.Proofs.Ytdodmjcbjknneaa
