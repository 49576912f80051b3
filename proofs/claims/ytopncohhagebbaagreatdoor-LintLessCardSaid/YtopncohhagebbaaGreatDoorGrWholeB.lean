/-
  Layer 7 (grammar): whole, where the text has tokens. Written by gen/mk_gw.py and ord.py.
-/
import Derived.Test.YtopncohhagebbaaGreatDoorGrWhole
namespace Go.Proofs.YtopncohhagebbaaGreatDoor
open Go.RowKit
namespace Gr
open Knot (Turns NewRow)
open Tr (Nd none0 node4 own_slice Box4)
open Sg (Tok kt plV TokAt LexOut PlB)
theorem enter_config : ∀ args W, (callFunc 58 args).run Tryz.prog W = .ok (.enter 58 args) W := fun args W => by kernel_rfl

set_option maxHeartbeats 16000000 in
set_option maxRecDepth 100000 in
theorem wholeC_ok {a0 a1 : Addr} {s : ByteArray} {w : World} (hs : s.size ≤ 4000000) (hg : Glob a0 a1 w) (hok : (Sg.ans (Gly.runes s.data.toList)).1 = 0) :
    Calls Tryz.prog 57 #[.string s, .func (.func 58) #[] #[]] w fun e y => ∃ v, e = .returned (.tuple #[v, plV (answer ([] : List Ty) config (Sg.ans (Gly.runes s.data.toList))).2.1, .int .i64 (answer ([] : List Ty) config (Sg.ans (Gly.runes s.data.toList))).2.2]) ∧ CfS y w.heap.size (answer [] config (Sg.ans (Gly.runes s.data.toList))).1 v ∧ Below w.heap.size w y := by
  have hz := Wz.start w #[.slice none 0 0] 24
  have HC := Lib.hid (Sg.lex_any s (((w.alloc (.cells #[.slice none 0 0] 24)).alloc (.cells #[.int .i64 0, .int .i64 0] tPl)).alloc (.cells #[.slice none 0 0] 24)) hs)
  have HZ := Lib.hid hz
  have HGl := Lib.hid hg
  obtain ⟨q, -, -, -, hans, hlen, htok⟩ := ans_toks hok
  rw [hans] at HC ⊢
  generalize (Sg.lex (1, 1) q).1 = toks at *
  generalize (Sg.lex (1, 1) q).2.1 = en at *
  have HT := Lib.hid (And.intro hlen htok)
  have hE := enter_config
  have hfe := fin_errs config_errs (kt toks)
  have HA := Lib.hid (And.intro (@answer_ok _ ([] : List Ty) config en toks) (@answer_err _ ([] : List Ty) config en toks))
  clear hz hg hok hans hlen htok
  generalize answer ([] : List Ty) config (0, en, toks) = ans at *
  go_enter Tryz.func57, Tryz.ntmps57
  go_wp2_with fail
  refine HC.out.mono ?_
  rintro e w4 ⟨tv, rfl, ho', hb⟩
  have ho : w4.ownsRow _ 189 4 tv toks.length (Sg.toksC toks) := ho'
  clear ho'
  obtain ⟨tao, tc, rfl⟩ := own_slice ho
  have al : Below w4.heap.size w4 (w4.alloc (.cells #[.int .i64 (en.1 : Nat), .int .i64 (en.2 : Nat)] tPl)) := (Below.refl _ _).alloc (Nat.le_refl _) _
  have HZ2 := Lib.hid (And.intro ((HZ.out.on hb).on al) (And.intro (PlB.new w4 en) (And.intro (HGl.out.below ((HZ.out.on hb).on al).below) (Tr.own_below ho al))))
  obtain ⟨pc0, pc1⟩ := (PlB.new w4 en).cells
  clear ho hb al HC HZ HGl
  unfold plV
  go_wp2_with fail
  have hsz : (w4.alloc (.cells #[.int .i64 (en.1 : Nat), .int .i64 (en.2 : Nat)] tPl)).heap.size = w4.heap.size + 1 := by simp
  generalize w4.heap.size = R9 at *
  generalize w4.alloc (.cells #[.int .i64 (en.1 : Nat), .int .i64 (en.2 : Nat)] tPl) = w5 at *
  clear w4
  obtain ⟨c, hcR, hcL, hce, hc0, hc1, hrd⟩ := start_rd (e := en) HZ2.out.2.2.1 HZ2.out.2.2.2 HT.out.1 HT.out.2
  have al1 : Below w5.heap.size w5 (w5.alloc (.cells #[.slice tao toks.length tc, .int .i64 (en.1 : Nat), .int .i64 (en.2 : Nat), .int .i64 0, .nilIface] 159)) := (Below.refl _ _).alloc (Nat.le_refl _) _
  have hW6 : Wh w #[.slice none 0 0] 24 c ⟨kt toks, 0⟩ (w5.alloc (.cells #[.slice tao toks.length tc, .int .i64 (en.1 : Nat), .int .i64 (en.2 : Nat), .int .i64 0, .nilIface] 159)) :=
    ⟨HZ2.out.1.on al1, hrd, by rw [hcR]; exact HZ2.out.1.lt⟩
  have HW6 := Lib.hid hW6
  clear HZ2 HT hrd al1 hW6 pc0 pc1
  rw [← hsz, ← hcR]
  have HcL := Lib.hid (And.intro hcL hce)
  clear hsz hcR hcL hce hc0 hc1
  generalize w5.alloc (.cells #[.slice tao toks.length tc, .int .i64 (en.1 : Nat), .int .i64 (en.2 : Nat), .int .i64 0, .nilIface] 159) = w6 at *
  have hW6 := HW6.out
  refine Calls.mono (config_any hW6.rd) ?_
  rintro e y ⟨v, rfl, hv, h1, h2⟩
  generalize config ⟨kt toks, 0⟩ = res at *
  obtain ⟨n, s1⟩ := res
  simp only at hv h1 HA hfe
  obtain ⟨no, nc, rfl, -⟩ := (show CfS _ _ _ _ from hv)
  have al2 : Below y.heap.size y (y.alloc (.cells #[.slice no n.length nc] 24)) := (Below.refl _ _).alloc (Nat.le_refl _) _
  have hK : KeepC c n (.agg #[.slice no n.length nc]) (y.alloc (.cells #[.slice no n.length nc] 24)) := (by obtain ⟨ao, cap, he, h5⟩ := (show CfS y w6.heap.size n _ from hv); exact ⟨ao, cap, he, (h5.below al2).mono (by have := hW6.rd.lt; omega)⟩)
  have hWr : Wr w #[.slice none 0 0] 24 c s1 y.heap.size #[.slice no n.length nc] (KeepC c n (.agg #[.slice no n.length nc])) (y.alloc (.cells #[.slice no n.length nc] 24)) :=
    ⟨(hW6.turn h1 h2).turn (h1.below al2) (Turns.of_below al2), heap_alloc_new y _, Nat.lt_of_lt_of_le hW6.rd.lt h2.size, hK, keepC hK⟩
  have hN := next_any (h1.below al2)
  have HWr := Lib.hid hWr
  clear hv h1 h2 al2 hK hWr hW6 HW6 hE
  go_wp2_with fail
  generalize y.heap.size = R12 at *
  generalize y.alloc (.cells #[.slice no n.length nc] 24) = w7 at *
  clear y
  by_cases hne : next s1 = 0
  · have hf : fin s1 = s1 := if_neg (fun h => h hne)
    rw [hf] at HA hfe
    rw [hne] at hN
    generalize s1 = sf at *
    refine hN.mono ?_
    rintro e w8 ⟨rfl, rfl⟩
    clear hN hne hf
    have HW := HWr
    clear HWr
    rcases hfe with he | he | he
    · have HE := Lib.hid (HA.out.1 he)
      clear HA
      go_wp2_with fail
      have hbd : Below w8.heap.size w8 w8.drew := (Below.refl _ _).drew
      have HWd := Lib.hid (HW.out.turn (HW.out.base.rd.below hbd) (Turns.of_below hbd) (keepC (keepC HW.out.isr _ _ (Turns.of_below (F := fun _ => False) hbd) fun _ h => h.elim)))
      clear HW hbd
      refine Order.region_begin (S := Eqw w8.drew) (by kernel_rfl) ?_
      generalize w8.drew = w9 at *
      clear w8
      have hI : Calls Tryz.prog 94 #[errV c 0, errV c 11] w9 fun e w' => e = .returned (.bool false) ∧ w' = w9 := is_wrong HWd.out.base.rd.env 0
      have HI := Lib.hid hI
      obtain ⟨ro, rc, hbx, -, -⟩ := HWd.out.base.rd.box
      obtain ⟨-, -, -, -, c4⟩ := rdb_cells hbx
      rw [he] at c4
      have g0 := HWd.out.base.rd.g0
      have HX := Lib.hid (fun x (hx : Eqw w9 x) => (by
        cases (show x = w9 from hx)
        exact ⟨c4, g0⟩ : x.cell? ⟨c.R, 4, none⟩ = some (errV c 0) ∧ x.cell? ⟨0, 0, none⟩ = some (errV c 11)))
      clear hI hbx c4 g0
      refine Order.reads_any (idx := [0, 1, 2, 3, 4]) (by kernel_rfl) (Eqw.refl _) (fun _ _ _ _ _ h => Order.noPanic_put h) 2 _ _ (by decide +kernel) ?_
      simp only [Order.pick, List.getElem?_toArray, List.getElem?_cons_zero, List.getElem?_cons_succ]
      repeat (first
        | (refine Order.reads_off (by rfl) ?_
           simp only [Act.put, List.setIfInBounds_toArray, List.set_cons_zero, List.set_cons_succ])
        | (apply Order.reads_on
           · rfl
           · intro x hx
             first
               | (go_simp; rfl)
               | (obtain ⟨i0, i1⟩ := HX.out x hx
                  go_simp; rfl)
           simp only [Act.put, List.setIfInBounds_toArray, List.set_cons_zero, List.set_cons_succ]))
      refine Order.reads_end ?_
      apply Order.acts_any (R := Eqw) Eqw.trans (i := 5)
      · rfl
      · decide +kernel
      · rfl
      unfold Oper.wp
      go_simp
      refine Calls.mono HI.out ?_
      rintro e w8 ⟨rfl, rfl⟩
      refine ⟨rfl, ?_⟩
      refine Order.reads_any (idx := [6]) (by kernel_rfl) (Eqw.refl _) (fun _ _ _ _ _ h => Order.noPanic_put h) 0 _ _ (by decide +kernel) ?_
      simp only [Order.pick, List.getElem?_toArray, List.getElem?_cons_zero, List.getElem?_cons_succ]
      repeat (first
        | (refine Order.reads_off (by rfl) ?_
           simp only [Act.put, List.setIfInBounds_toArray, List.set_cons_zero, List.set_cons_succ])
        | (apply Order.reads_on
           · rfl
           · intro x hx
             first
               | (go_simp; rfl)
               | (fail
                  go_simp; rfl)
           simp only [Act.put]))
      refine Order.reads_end ?_
      refine wpAnyH_done (by decide +kernel) ?_ _
      refine NoPanic.normal ?_
      have HW := HWd
      clear HWd HX HI
      go_wp2_with fail
      have hbd : Below w8.heap.size w8 w8.drew := (Below.refl _ _).drew
      have HWd := Lib.hid (HW.out.turn (HW.out.base.rd.below hbd) (Turns.of_below hbd) (keepC (keepC HW.out.isr _ _ (Turns.of_below (F := fun _ => False) hbd) fun _ h => h.elim)))
      clear HW hbd
      refine Order.region_begin (S := Eqw w8.drew) (by kernel_rfl) ?_
      generalize w8.drew = w9 at *
      clear w8
      have hI : Calls Tryz.prog 94 #[errV c 0, errV c 12] w9 fun e w' => e = .returned (.bool false) ∧ w' = w9 := is_deep HWd.out.base.rd.env 0 (by decide)
      have HI := Lib.hid hI
      obtain ⟨ro, rc, hbx, -, -⟩ := HWd.out.base.rd.box
      obtain ⟨-, -, -, -, c4⟩ := rdb_cells hbx
      rw [he] at c4
      have g0 := HWd.out.base.rd.g1
      have HX := Lib.hid (fun x (hx : Eqw w9 x) => (by
        cases (show x = w9 from hx)
        exact ⟨c4, g0⟩ : x.cell? ⟨c.R, 4, none⟩ = some (errV c 0) ∧ x.cell? ⟨1, 0, none⟩ = some (errV c 12)))
      clear hI hbx c4 g0
      refine Order.reads_any (idx := [0, 1, 2, 3, 4]) (by kernel_rfl) (Eqw.refl _) (fun _ _ _ _ _ h => Order.noPanic_put h) 2 _ _ (by decide +kernel) ?_
      simp only [Order.pick, List.getElem?_toArray, List.getElem?_cons_zero, List.getElem?_cons_succ]
      repeat (first
        | (refine Order.reads_off (by rfl) ?_
           simp only [Act.put, List.setIfInBounds_toArray, List.set_cons_zero, List.set_cons_succ])
        | (apply Order.reads_on
           · rfl
           · intro x hx
             first
               | (go_simp; rfl)
               | (obtain ⟨i0, i1⟩ := HX.out x hx
                  go_simp; rfl)
           simp only [Act.put, List.setIfInBounds_toArray, List.set_cons_zero, List.set_cons_succ]))
      refine Order.reads_end ?_
      apply Order.acts_any (R := Eqw) Eqw.trans (i := 5)
      · rfl
      · decide +kernel
      · rfl
      unfold Oper.wp
      go_simp
      refine Calls.mono HI.out ?_
      rintro e w8 ⟨rfl, rfl⟩
      refine ⟨rfl, ?_⟩
      refine Order.reads_any (idx := [6]) (by kernel_rfl) (Eqw.refl _) (fun _ _ _ _ _ h => Order.noPanic_put h) 0 _ _ (by decide +kernel) ?_
      simp only [Order.pick, List.getElem?_toArray, List.getElem?_cons_zero, List.getElem?_cons_succ]
      repeat (first
        | (refine Order.reads_off (by rfl) ?_
           simp only [Act.put, List.setIfInBounds_toArray, List.set_cons_zero, List.set_cons_succ])
        | (apply Order.reads_on
           · rfl
           · intro x hx
             first
               | (go_simp; rfl)
               | (fail
                  go_simp; rfl)
           simp only [Act.put]))
      refine Order.reads_end ?_
      refine wpAnyH_done (by decide +kernel) ?_ _
      refine NoPanic.normal ?_
      have HW := HWd
      clear HWd HX HI
      have a0 : w8.cell? ⟨w.heap.size, 0, none⟩ = some (.slice none 0 0) := by rw [Lib.cell_of_heap HW.out.base.base.a]; rfl
      have fa0 := Lib.frozen_of_heap HW.out.base.base.a 0
      have b0 : w8.cell? ⟨R12, 0, none⟩ = some (.slice no n.length nc) := by rw [Lib.cell_of_heap HW.out.t]; rfl
      obtain ⟨p0, p1, fp0, fp1⟩ := pl_cells HW.out.base.base.p
      have hlow := HW.out.base.low
      have hWr : ∃ W, W = (((w8.setCell ⟨w.heap.size, 0, none⟩ (.slice no n.length nc)).setCell ⟨w.heap.size + 1, 0, none⟩ (.int .i64 0)).setCell ⟨w.heap.size + 1, 1, none⟩ (.int .i64 0)) := ⟨_, rfl⟩
      obtain ⟨W, hW⟩ := hWr
      have tt : Turns (fun k => k = w.heap.size ∨ k = w.heap.size + 1) w8 W := by rw [hW]; exact setP_turns ((Turns.refl (fun k => k = w.heap.size ∨ k = w.heap.size + 1) w8).setCell (p := ⟨w.heap.size, 0, none⟩) (.inl rfl) (.slice no n.length nc)) _ (.inr rfl) _ _
      have hWa : W.heap[w.heap.size]? = some (.cells #[.slice no n.length nc] 24 (0, 0)) := by
        rw [hW]
        repeat rw [other_set (R := w.heap.size + 1) (by omega)]
        exact (Lib.heap_setCell_same (i := 0) HW.out.base.base.a (.slice no n.length nc))
      have hWp : W.heap[w.heap.size + 1]? = some (.cells #[.int .i64 0, .int .i64 0] tPl (0, 0)) := by
        rw [hW]
        refine Lib.heap_setCell_same (i := 1) (Lib.heap_setCell_same (i := 0) (cs := #[.int .i64 0, .int .i64 0]) ?_ (.int .i64 0)) (.int .i64 0)
        repeat rw [other_set (by omega)]
        exact HW.out.base.base.p
      have hWb : Below w.heap.size w W := HW.out.base.base.below.trans (tt.below HW.out.base.base.below.size fun k hk => by omega)
      have his : CfS W w.heap.size n (.agg #[.slice no n.length nc]) := by obtain ⟨ao, cap, he, h5⟩ := HW.out.isr; exact ⟨ao, cap, he, (h5.turn tt fun g hg _ e => by have := HW.out.base.low; omega).mono (by have := HW.out.base.low; omega)⟩
      have HG := Lib.hid (And.intro hW (And.intro hWa (And.intro hWp (And.intro hWb his))))
      clear hW tt hWa hWp hWb HW hlow his
      go_wp2_with fail
      rw [← HG.out.1]
      have hWa := HG.out.2.1
      have hWp := HG.out.2.2.1
      have g0 : W.cell? ⟨w.heap.size, 0, none⟩ = some (.slice no n.length nc) := by rw [Lib.cell_of_heap hWa]; rfl
      obtain ⟨q0, q1, -, -⟩ := pl_cells hWp
      exact bodyPost_ret (v := .tuple #[.agg #[.slice no n.length nc], plV (0, 0), .int .i64 0]) (by simp [results, Tryz.results57, go_sem, plV, g0, q0, q1]) rfl ⟨_, by rw [HE.out], by rw [HE.out]; exact HG.out.2.2.2.2, HG.out.2.2.2.1⟩
    · have HE := Lib.hid (HA.out.2 he (by decide))
      clear HA
      go_wp2_with fail
      have hbd : Below w8.heap.size w8 w8.drew := (Below.refl _ _).drew
      have HWd := Lib.hid (HW.out.turn (HW.out.base.rd.below hbd) (Turns.of_below hbd) (keepC (keepC HW.out.isr _ _ (Turns.of_below (F := fun _ => False) hbd) fun _ h => h.elim)))
      clear HW hbd
      refine Order.region_begin (S := Eqw w8.drew) (by kernel_rfl) ?_
      generalize w8.drew = w9 at *
      clear w8
      have hI : Calls Tryz.prog 94 #[errV c 11, errV c 11] w9 fun e w' => e = .returned (.bool true) ∧ w' = w9 := is_wrong HWd.out.base.rd.env 11
      have HI := Lib.hid hI
      obtain ⟨ro, rc, hbx, -, -⟩ := HWd.out.base.rd.box
      obtain ⟨-, -, -, -, c4⟩ := rdb_cells hbx
      rw [he] at c4
      have g0 := HWd.out.base.rd.g0
      have HX := Lib.hid (fun x (hx : Eqw w9 x) => (by
        cases (show x = w9 from hx)
        exact ⟨c4, g0⟩ : x.cell? ⟨c.R, 4, none⟩ = some (errV c 11) ∧ x.cell? ⟨0, 0, none⟩ = some (errV c 11)))
      clear hI hbx c4 g0
      refine Order.reads_any (idx := [0, 1, 2, 3, 4]) (by kernel_rfl) (Eqw.refl _) (fun _ _ _ _ _ h => Order.noPanic_put h) 2 _ _ (by decide +kernel) ?_
      simp only [Order.pick, List.getElem?_toArray, List.getElem?_cons_zero, List.getElem?_cons_succ]
      repeat (first
        | (refine Order.reads_off (by rfl) ?_
           simp only [Act.put, List.setIfInBounds_toArray, List.set_cons_zero, List.set_cons_succ])
        | (apply Order.reads_on
           · rfl
           · intro x hx
             first
               | (go_simp; rfl)
               | (obtain ⟨i0, i1⟩ := HX.out x hx
                  go_simp; rfl)
           simp only [Act.put, List.setIfInBounds_toArray, List.set_cons_zero, List.set_cons_succ]))
      refine Order.reads_end ?_
      apply Order.acts_any (R := Eqw) Eqw.trans (i := 5)
      · rfl
      · decide +kernel
      · rfl
      unfold Oper.wp
      go_simp
      refine Calls.mono HI.out ?_
      rintro e w8 ⟨rfl, rfl⟩
      refine ⟨rfl, ?_⟩
      refine Order.reads_any (idx := [6]) (by kernel_rfl) (Eqw.refl _) (fun _ _ _ _ _ h => Order.noPanic_put h) 0 _ _ (by decide +kernel) ?_
      simp only [Order.pick, List.getElem?_toArray, List.getElem?_cons_zero, List.getElem?_cons_succ]
      repeat (first
        | (refine Order.reads_off (by rfl) ?_
           simp only [Act.put, List.setIfInBounds_toArray, List.set_cons_zero, List.set_cons_succ])
        | (apply Order.reads_on
           · rfl
           · intro x hx
             first
               | (go_simp; rfl)
               | (fail
                  go_simp; rfl)
           simp only [Act.put]))
      refine Order.reads_end ?_
      refine wpAnyH_done (by decide +kernel) ?_ _
      refine NoPanic.normal ?_
      have HW := HWd
      clear HWd HX HI
      go_wp2_with fail
      have hbd : Below w8.heap.size w8 w8.drew := (Below.refl _ _).drew
      have HWd := Lib.hid (HW.out.base.turn (HW.out.base.rd.below hbd) (Turns.of_below hbd))
      clear HW hbd
      refine Order.region_begin (S := Turns (fun k => k = w.heap.size ∨ k = w.heap.size + 1) w8.drew) (by kernel_rfl) ?_
      generalize w8.drew = w9 at *
      clear w8
      have HX := Lib.hid (show ∀ x, Turns (fun k => k = w.heap.size ∨ k = w.heap.size + 1) w9 x → (x.cell? ⟨w.heap.size + 1 + 1, 0, none⟩ = some (.slice none 0 0)) from fun x hx => by
        have h1 := hx.heap HWd.out.base.z (by omega)
        exact (by rw [Lib.cell_of_heap h1]; rfl))
      have HAt := Lib.hid (at_any HWd.out.rd)
      have hpe : place c.L sf c.e = place toks sf en := by rw [HcL.out.1, HcL.out.2]
      rw [hpe] at HAt
      clear hpe
      generalize place toks sf en = pl at *
      refine Order.reads_any (idx := [0, 1]) (by kernel_rfl) (Turns.refl _ _) (fun _ _ _ _ _ h => Order.noPanic_put h) 4 _ _ (by decide +kernel) ?_
      simp only [Order.pick, List.getElem?_toArray, List.getElem?_cons_zero, List.getElem?_cons_succ]
      repeat (first
        | (refine Order.reads_off (by rfl) ?_
           simp only [Act.put, List.setIfInBounds_toArray, List.set_cons_zero, List.set_cons_succ])
        | (apply Order.reads_on
           · rfl
           · intro x hx
             first
               | (go_simp; rfl)
               | (obtain i0 := HX.out x hx
                  go_simp; rfl)
           simp only [Act.put, List.setIfInBounds_toArray, List.set_cons_zero, List.set_cons_succ]))
      refine Order.reads_end ?_
      apply Order.acts_any (R := (Turns (fun k => k = w.heap.size ∨ k = w.heap.size + 1))) (fun h k => h.trans k fun _ _ h => h) (i := 2)
      · rfl
      · decide +kernel
      · rfl
      unfold Oper.wp
      go_simp
      refine Calls.mono HAt.out ?_
      rintro e wy ⟨rfl, hby⟩
      refine ⟨Turns.of_below hby, ?_⟩
      have hh := HWd.out.base.on hby
      clear HX HAt HWd hby
      have a0 : wy.cell? ⟨w.heap.size, 0, none⟩ = some (.slice none 0 0) := by rw [Lib.cell_of_heap hh.a]; rfl
      have fa0 := Lib.frozen_of_heap hh.a 0
      apply Order.acts_any (R := (Turns (fun k => k = w.heap.size ∨ k = w.heap.size + 1))) (fun h k => h.trans k fun _ _ h => h) (i := 3)
      · rfl
      · decide +kernel
      · rfl
      unfold Oper.wp
      go_simp
      have tA : Turns (fun k => k = w.heap.size ∨ k = w.heap.size + 1) wy (wy.setCell ⟨w.heap.size, 0, none⟩ (.slice none 0 0)) := ((Turns.refl (fun k => k = w.heap.size ∨ k = w.heap.size + 1) wy).setCell (p := ⟨w.heap.size, 0, none⟩) (.inl rfl) (.slice none 0 0))
      have hAa : (wy.setCell ⟨w.heap.size, 0, none⟩ (.slice none 0 0)).heap[w.heap.size]? = some (.cells #[.slice none 0 0] 24 (0, 0)) := (Lib.heap_setCell_same (i := 0) hh.a (.slice none 0 0))
      have hAp : (wy.setCell ⟨w.heap.size, 0, none⟩ (.slice none 0 0)).heap[w.heap.size + 1]? = some (.cells #[.int .i64 0, .int .i64 0] tPl (0, 0)) := by
        repeat rw [other_set (by omega)]
        exact hh.p
      have hAb : Below w.heap.size w (wy.setCell ⟨w.heap.size, 0, none⟩ (.slice none 0 0)) := hh.below.trans (tA.below hh.below.size fun k hk => by omega)
      refine ⟨tA, ?_⟩
      clear tA
      generalize (wy.setCell ⟨w.heap.size, 0, none⟩ (.slice none 0 0)) = wA at *
      obtain ⟨p0, p1, fp0, fp1⟩ := pl_cells hAp
      unfold plV
      apply Order.acts_any (R := (Turns (fun k => k = w.heap.size ∨ k = w.heap.size + 1))) (fun h k => h.trans k fun _ _ h => h) (i := 4)
      · rfl
      · decide +kernel
      · rfl
      unfold Oper.wp
      go_simp
      refine ⟨setP_turns (Turns.refl _ _) _ (.inr rfl) _ _, ?_⟩
      have hWa : ((wA.setCell ⟨w.heap.size + 1, 0, none⟩ (.int .i64 (pl.1 : Nat))).setCell ⟨w.heap.size + 1, 1, none⟩ (.int .i64 (pl.2 : Nat))).heap[w.heap.size]? = some (.cells #[.slice none 0 0] 24 (0, 0)) := by
        repeat rw [other_set (by omega)]
        exact hAa
      have hWp : ((wA.setCell ⟨w.heap.size + 1, 0, none⟩ (.int .i64 (pl.1 : Nat))).setCell ⟨w.heap.size + 1, 1, none⟩ (.int .i64 (pl.2 : Nat))).heap[w.heap.size + 1]? = some (.cells #[.int .i64 (pl.1 : Nat), .int .i64 (pl.2 : Nat)] tPl (0, 0)) :=
        Lib.heap_setCell_same (i := 1) (Lib.heap_setCell_same (i := 0) hAp _) _
      have hWb := setPl_below' hAb (R := w.heap.size + 1) (by omega) (.int .i64 (pl.1 : Nat)) (.int .i64 (pl.2 : Nat))
      generalize (wA.setCell ⟨w.heap.size + 1, 0, none⟩ (.int .i64 (pl.1 : Nat))).setCell ⟨w.heap.size + 1, 1, none⟩ (.int .i64 (pl.2 : Nat)) = W at *
      refine Order.reads_any (idx := [5]) (by kernel_rfl) (Turns.refl _ _) (fun _ _ _ _ _ h => Order.noPanic_put h) 0 _ _ (by decide +kernel) ?_
      simp only [Order.pick, List.getElem?_toArray, List.getElem?_cons_zero, List.getElem?_cons_succ]
      repeat (first
        | (refine Order.reads_off (by rfl) ?_
           simp only [Act.put, List.setIfInBounds_toArray, List.set_cons_zero, List.set_cons_succ])
        | (apply Order.reads_on
           · rfl
           · intro x hx
             first
               | (go_simp; rfl)
               | (fail
                  go_simp; rfl)
           simp only [Act.put]))
      refine Order.reads_end ?_
      refine wpAnyH_done (by decide +kernel) ?_ _
      refine NoPanic.normal ?_
      clear hAa hAp hAb p0 p1 fp0 fp1 hh
      go_wp2_with fail
      have g0 : W.cell? ⟨w.heap.size, 0, none⟩ = some (.slice none 0 0) := by rw [Lib.cell_of_heap hWa]; rfl
      obtain ⟨q0, q1, -, -⟩ := pl_cells hWp
      exact bodyPost_ret (v := .tuple #[.agg #[.slice none 0 0], plV pl, .int .i64 11]) (by simp [results, Tryz.results57, go_sem, plV, g0, q0, q1]) rfl ⟨_, by rw [HE.out]; rfl, by rw [HE.out]; exact ⟨none, 0, rfl, RowS.nil _ _ _ _⟩, hWb⟩
    · have HE := Lib.hid (HA.out.2 he (by decide))
      clear HA
      go_wp2_with fail
      have hbd : Below w8.heap.size w8 w8.drew := (Below.refl _ _).drew
      have HWd := Lib.hid (HW.out.turn (HW.out.base.rd.below hbd) (Turns.of_below hbd) (keepC (keepC HW.out.isr _ _ (Turns.of_below (F := fun _ => False) hbd) fun _ h => h.elim)))
      clear HW hbd
      refine Order.region_begin (S := Eqw w8.drew) (by kernel_rfl) ?_
      generalize w8.drew = w9 at *
      clear w8
      have hI : Calls Tryz.prog 94 #[errV c 12, errV c 11] w9 fun e w' => e = .returned (.bool false) ∧ w' = w9 := is_wrong HWd.out.base.rd.env 12
      have HI := Lib.hid hI
      obtain ⟨ro, rc, hbx, -, -⟩ := HWd.out.base.rd.box
      obtain ⟨-, -, -, -, c4⟩ := rdb_cells hbx
      rw [he] at c4
      have g0 := HWd.out.base.rd.g0
      have HX := Lib.hid (fun x (hx : Eqw w9 x) => (by
        cases (show x = w9 from hx)
        exact ⟨c4, g0⟩ : x.cell? ⟨c.R, 4, none⟩ = some (errV c 12) ∧ x.cell? ⟨0, 0, none⟩ = some (errV c 11)))
      clear hI hbx c4 g0
      refine Order.reads_any (idx := [0, 1, 2, 3, 4]) (by kernel_rfl) (Eqw.refl _) (fun _ _ _ _ _ h => Order.noPanic_put h) 2 _ _ (by decide +kernel) ?_
      simp only [Order.pick, List.getElem?_toArray, List.getElem?_cons_zero, List.getElem?_cons_succ]
      repeat (first
        | (refine Order.reads_off (by rfl) ?_
           simp only [Act.put, List.setIfInBounds_toArray, List.set_cons_zero, List.set_cons_succ])
        | (apply Order.reads_on
           · rfl
           · intro x hx
             first
               | (go_simp; rfl)
               | (obtain ⟨i0, i1⟩ := HX.out x hx
                  go_simp; rfl)
           simp only [Act.put, List.setIfInBounds_toArray, List.set_cons_zero, List.set_cons_succ]))
      refine Order.reads_end ?_
      apply Order.acts_any (R := Eqw) Eqw.trans (i := 5)
      · rfl
      · decide +kernel
      · rfl
      unfold Oper.wp
      go_simp
      refine Calls.mono HI.out ?_
      rintro e w8 ⟨rfl, rfl⟩
      refine ⟨rfl, ?_⟩
      refine Order.reads_any (idx := [6]) (by kernel_rfl) (Eqw.refl _) (fun _ _ _ _ _ h => Order.noPanic_put h) 0 _ _ (by decide +kernel) ?_
      simp only [Order.pick, List.getElem?_toArray, List.getElem?_cons_zero, List.getElem?_cons_succ]
      repeat (first
        | (refine Order.reads_off (by rfl) ?_
           simp only [Act.put, List.setIfInBounds_toArray, List.set_cons_zero, List.set_cons_succ])
        | (apply Order.reads_on
           · rfl
           · intro x hx
             first
               | (go_simp; rfl)
               | (fail
                  go_simp; rfl)
           simp only [Act.put]))
      refine Order.reads_end ?_
      refine wpAnyH_done (by decide +kernel) ?_ _
      refine NoPanic.normal ?_
      have HW := HWd
      clear HWd HX HI
      go_wp2_with fail
      have hbd : Below w8.heap.size w8 w8.drew := (Below.refl _ _).drew
      have HWd := Lib.hid (HW.out.turn (HW.out.base.rd.below hbd) (Turns.of_below hbd) (keepC (keepC HW.out.isr _ _ (Turns.of_below (F := fun _ => False) hbd) fun _ h => h.elim)))
      clear HW hbd
      refine Order.region_begin (S := Eqw w8.drew) (by kernel_rfl) ?_
      generalize w8.drew = w9 at *
      clear w8
      have hI : Calls Tryz.prog 94 #[errV c 12, errV c 12] w9 fun e w' => e = .returned (.bool true) ∧ w' = w9 := is_deep HWd.out.base.rd.env 12 (by decide)
      have HI := Lib.hid hI
      obtain ⟨ro, rc, hbx, -, -⟩ := HWd.out.base.rd.box
      obtain ⟨-, -, -, -, c4⟩ := rdb_cells hbx
      rw [he] at c4
      have g0 := HWd.out.base.rd.g1
      have HX := Lib.hid (fun x (hx : Eqw w9 x) => (by
        cases (show x = w9 from hx)
        exact ⟨c4, g0⟩ : x.cell? ⟨c.R, 4, none⟩ = some (errV c 12) ∧ x.cell? ⟨1, 0, none⟩ = some (errV c 12)))
      clear hI hbx c4 g0
      refine Order.reads_any (idx := [0, 1, 2, 3, 4]) (by kernel_rfl) (Eqw.refl _) (fun _ _ _ _ _ h => Order.noPanic_put h) 2 _ _ (by decide +kernel) ?_
      simp only [Order.pick, List.getElem?_toArray, List.getElem?_cons_zero, List.getElem?_cons_succ]
      repeat (first
        | (refine Order.reads_off (by rfl) ?_
           simp only [Act.put, List.setIfInBounds_toArray, List.set_cons_zero, List.set_cons_succ])
        | (apply Order.reads_on
           · rfl
           · intro x hx
             first
               | (go_simp; rfl)
               | (obtain ⟨i0, i1⟩ := HX.out x hx
                  go_simp; rfl)
           simp only [Act.put, List.setIfInBounds_toArray, List.set_cons_zero, List.set_cons_succ]))
      refine Order.reads_end ?_
      apply Order.acts_any (R := Eqw) Eqw.trans (i := 5)
      · rfl
      · decide +kernel
      · rfl
      unfold Oper.wp
      go_simp
      refine Calls.mono HI.out ?_
      rintro e w8 ⟨rfl, rfl⟩
      refine ⟨rfl, ?_⟩
      refine Order.reads_any (idx := [6]) (by kernel_rfl) (Eqw.refl _) (fun _ _ _ _ _ h => Order.noPanic_put h) 0 _ _ (by decide +kernel) ?_
      simp only [Order.pick, List.getElem?_toArray, List.getElem?_cons_zero, List.getElem?_cons_succ]
      repeat (first
        | (refine Order.reads_off (by rfl) ?_
           simp only [Act.put, List.setIfInBounds_toArray, List.set_cons_zero, List.set_cons_succ])
        | (apply Order.reads_on
           · rfl
           · intro x hx
             first
               | (go_simp; rfl)
               | (fail
                  go_simp; rfl)
           simp only [Act.put]))
      refine Order.reads_end ?_
      refine wpAnyH_done (by decide +kernel) ?_ _
      refine NoPanic.normal ?_
      have HW := HWd
      clear HWd HX HI
      go_wp2_with fail
      have hbd : Below w8.heap.size w8 w8.drew := (Below.refl _ _).drew
      have HWd := Lib.hid (HW.out.base.turn (HW.out.base.rd.below hbd) (Turns.of_below hbd))
      clear HW hbd
      refine Order.region_begin (S := Turns (fun k => k = w.heap.size ∨ k = w.heap.size + 1) w8.drew) (by kernel_rfl) ?_
      generalize w8.drew = w9 at *
      clear w8
      have HX := Lib.hid (show ∀ x, Turns (fun k => k = w.heap.size ∨ k = w.heap.size + 1) w9 x → (x.cell? ⟨w.heap.size + 1 + 1, 0, none⟩ = some (.slice none 0 0)) from fun x hx => by
        have h1 := hx.heap HWd.out.base.z (by omega)
        exact (by rw [Lib.cell_of_heap h1]; rfl))
      have HAt := Lib.hid (at_any HWd.out.rd)
      have hpe : place c.L sf c.e = place toks sf en := by rw [HcL.out.1, HcL.out.2]
      rw [hpe] at HAt
      clear hpe
      generalize place toks sf en = pl at *
      refine Order.reads_any (idx := [0, 1]) (by kernel_rfl) (Turns.refl _ _) (fun _ _ _ _ _ h => Order.noPanic_put h) 4 _ _ (by decide +kernel) ?_
      simp only [Order.pick, List.getElem?_toArray, List.getElem?_cons_zero, List.getElem?_cons_succ]
      repeat (first
        | (refine Order.reads_off (by rfl) ?_
           simp only [Act.put, List.setIfInBounds_toArray, List.set_cons_zero, List.set_cons_succ])
        | (apply Order.reads_on
           · rfl
           · intro x hx
             first
               | (go_simp; rfl)
               | (obtain i0 := HX.out x hx
                  go_simp; rfl)
           simp only [Act.put, List.setIfInBounds_toArray, List.set_cons_zero, List.set_cons_succ]))
      refine Order.reads_end ?_
      apply Order.acts_any (R := (Turns (fun k => k = w.heap.size ∨ k = w.heap.size + 1))) (fun h k => h.trans k fun _ _ h => h) (i := 2)
      · rfl
      · decide +kernel
      · rfl
      unfold Oper.wp
      go_simp
      refine Calls.mono HAt.out ?_
      rintro e wy ⟨rfl, hby⟩
      refine ⟨Turns.of_below hby, ?_⟩
      have hh := HWd.out.base.on hby
      clear HX HAt HWd hby
      have a0 : wy.cell? ⟨w.heap.size, 0, none⟩ = some (.slice none 0 0) := by rw [Lib.cell_of_heap hh.a]; rfl
      have fa0 := Lib.frozen_of_heap hh.a 0
      apply Order.acts_any (R := (Turns (fun k => k = w.heap.size ∨ k = w.heap.size + 1))) (fun h k => h.trans k fun _ _ h => h) (i := 3)
      · rfl
      · decide +kernel
      · rfl
      unfold Oper.wp
      go_simp
      have tA : Turns (fun k => k = w.heap.size ∨ k = w.heap.size + 1) wy (wy.setCell ⟨w.heap.size, 0, none⟩ (.slice none 0 0)) := ((Turns.refl (fun k => k = w.heap.size ∨ k = w.heap.size + 1) wy).setCell (p := ⟨w.heap.size, 0, none⟩) (.inl rfl) (.slice none 0 0))
      have hAa : (wy.setCell ⟨w.heap.size, 0, none⟩ (.slice none 0 0)).heap[w.heap.size]? = some (.cells #[.slice none 0 0] 24 (0, 0)) := (Lib.heap_setCell_same (i := 0) hh.a (.slice none 0 0))
      have hAp : (wy.setCell ⟨w.heap.size, 0, none⟩ (.slice none 0 0)).heap[w.heap.size + 1]? = some (.cells #[.int .i64 0, .int .i64 0] tPl (0, 0)) := by
        repeat rw [other_set (by omega)]
        exact hh.p
      have hAb : Below w.heap.size w (wy.setCell ⟨w.heap.size, 0, none⟩ (.slice none 0 0)) := hh.below.trans (tA.below hh.below.size fun k hk => by omega)
      refine ⟨tA, ?_⟩
      clear tA
      generalize (wy.setCell ⟨w.heap.size, 0, none⟩ (.slice none 0 0)) = wA at *
      obtain ⟨p0, p1, fp0, fp1⟩ := pl_cells hAp
      unfold plV
      apply Order.acts_any (R := (Turns (fun k => k = w.heap.size ∨ k = w.heap.size + 1))) (fun h k => h.trans k fun _ _ h => h) (i := 4)
      · rfl
      · decide +kernel
      · rfl
      unfold Oper.wp
      go_simp
      refine ⟨setP_turns (Turns.refl _ _) _ (.inr rfl) _ _, ?_⟩
      have hWa : ((wA.setCell ⟨w.heap.size + 1, 0, none⟩ (.int .i64 (pl.1 : Nat))).setCell ⟨w.heap.size + 1, 1, none⟩ (.int .i64 (pl.2 : Nat))).heap[w.heap.size]? = some (.cells #[.slice none 0 0] 24 (0, 0)) := by
        repeat rw [other_set (by omega)]
        exact hAa
      have hWp : ((wA.setCell ⟨w.heap.size + 1, 0, none⟩ (.int .i64 (pl.1 : Nat))).setCell ⟨w.heap.size + 1, 1, none⟩ (.int .i64 (pl.2 : Nat))).heap[w.heap.size + 1]? = some (.cells #[.int .i64 (pl.1 : Nat), .int .i64 (pl.2 : Nat)] tPl (0, 0)) :=
        Lib.heap_setCell_same (i := 1) (Lib.heap_setCell_same (i := 0) hAp _) _
      have hWb := setPl_below' hAb (R := w.heap.size + 1) (by omega) (.int .i64 (pl.1 : Nat)) (.int .i64 (pl.2 : Nat))
      generalize (wA.setCell ⟨w.heap.size + 1, 0, none⟩ (.int .i64 (pl.1 : Nat))).setCell ⟨w.heap.size + 1, 1, none⟩ (.int .i64 (pl.2 : Nat)) = W at *
      refine Order.reads_any (idx := [5]) (by kernel_rfl) (Turns.refl _ _) (fun _ _ _ _ _ h => Order.noPanic_put h) 0 _ _ (by decide +kernel) ?_
      simp only [Order.pick, List.getElem?_toArray, List.getElem?_cons_zero, List.getElem?_cons_succ]
      repeat (first
        | (refine Order.reads_off (by rfl) ?_
           simp only [Act.put, List.setIfInBounds_toArray, List.set_cons_zero, List.set_cons_succ])
        | (apply Order.reads_on
           · rfl
           · intro x hx
             first
               | (go_simp; rfl)
               | (fail
                  go_simp; rfl)
           simp only [Act.put]))
      refine Order.reads_end ?_
      refine wpAnyH_done (by decide +kernel) ?_ _
      refine NoPanic.normal ?_
      clear hAa hAp hAb p0 p1 fp0 fp1 hh
      go_wp2_with fail
      have g0 : W.cell? ⟨w.heap.size, 0, none⟩ = some (.slice none 0 0) := by rw [Lib.cell_of_heap hWa]; rfl
      obtain ⟨q0, q1, -, -⟩ := pl_cells hWp
      exact bodyPost_ret (v := .tuple #[.agg #[.slice none 0 0], plV pl, .int .i64 12]) (by simp [results, Tryz.results57, go_sem, plV, g0, q0, q1]) rfl ⟨_, by rw [HE.out]; rfl, by rw [HE.out]; exact ⟨none, 0, rfl, RowS.nil _ _ _ _⟩, hWb⟩
  · have hf : fin s1 = fail s1 11 := if_pos hne
    obtain ⟨h0, -⟩ := next_good hne
    rw [hf] at HA
    have he : (fail s1 11).err = 11 := by rw [fail, if_pos h0]
    have HE := Lib.hid (HA.out.2 he (by decide))
    have e1 : ((next s1) != 0) = true := by simpa using hne
    have g0 := HWr.out.base.rd.g0
    have HF := Lib.hid (fail_any HWr.out.base.rd (n := 11) (by decide))
    clear HA hf hfe hne h0
    generalize fail s1 11 = sf at *
    refine hN.mono ?_
    rintro e w7' ⟨rfl, rfl⟩
    clear hN
    go_wp2_with fail
    refine HF.out.mono ?_
    rintro e w8 ⟨rfl, h1, h2⟩
    have HW := Lib.hid (HWr.out.turn h1 h2 (keepC (keepC HWr.out.isr _ _ h2 fun k hk => Nat.le_of_eq hk)))
    clear HF HWr h1 h2 g0 e1
    go_wp2_with fail
    have hbd : Below w8.heap.size w8 w8.drew := (Below.refl _ _).drew
    have HWd := Lib.hid (HW.out.turn (HW.out.base.rd.below hbd) (Turns.of_below hbd) (keepC (keepC HW.out.isr _ _ (Turns.of_below (F := fun _ => False) hbd) fun _ h => h.elim)))
    clear HW hbd
    refine Order.region_begin (S := Eqw w8.drew) (by kernel_rfl) ?_
    generalize w8.drew = w9 at *
    clear w8
    have hI : Calls Tryz.prog 94 #[errV c 11, errV c 11] w9 fun e w' => e = .returned (.bool true) ∧ w' = w9 := is_wrong HWd.out.base.rd.env 11
    have HI := Lib.hid hI
    obtain ⟨ro, rc, hbx, -, -⟩ := HWd.out.base.rd.box
    obtain ⟨-, -, -, -, c4⟩ := rdb_cells hbx
    rw [he] at c4
    have g0 := HWd.out.base.rd.g0
    have HX := Lib.hid (fun x (hx : Eqw w9 x) => (by
      cases (show x = w9 from hx)
      exact ⟨c4, g0⟩ : x.cell? ⟨c.R, 4, none⟩ = some (errV c 11) ∧ x.cell? ⟨0, 0, none⟩ = some (errV c 11)))
    clear hI hbx c4 g0
    refine Order.reads_any (idx := [0, 1, 2, 3, 4]) (by kernel_rfl) (Eqw.refl _) (fun _ _ _ _ _ h => Order.noPanic_put h) 2 _ _ (by decide +kernel) ?_
    simp only [Order.pick, List.getElem?_toArray, List.getElem?_cons_zero, List.getElem?_cons_succ]
    repeat (first
      | (refine Order.reads_off (by rfl) ?_
         simp only [Act.put, List.setIfInBounds_toArray, List.set_cons_zero, List.set_cons_succ])
      | (apply Order.reads_on
         · rfl
         · intro x hx
           first
             | (go_simp; rfl)
             | (obtain ⟨i0, i1⟩ := HX.out x hx
                go_simp; rfl)
         simp only [Act.put, List.setIfInBounds_toArray, List.set_cons_zero, List.set_cons_succ]))
    refine Order.reads_end ?_
    apply Order.acts_any (R := Eqw) Eqw.trans (i := 5)
    · rfl
    · decide +kernel
    · rfl
    unfold Oper.wp
    go_simp
    refine Calls.mono HI.out ?_
    rintro e w8 ⟨rfl, rfl⟩
    refine ⟨rfl, ?_⟩
    refine Order.reads_any (idx := [6]) (by kernel_rfl) (Eqw.refl _) (fun _ _ _ _ _ h => Order.noPanic_put h) 0 _ _ (by decide +kernel) ?_
    simp only [Order.pick, List.getElem?_toArray, List.getElem?_cons_zero, List.getElem?_cons_succ]
    repeat (first
      | (refine Order.reads_off (by rfl) ?_
         simp only [Act.put, List.setIfInBounds_toArray, List.set_cons_zero, List.set_cons_succ])
      | (apply Order.reads_on
         · rfl
         · intro x hx
           first
             | (go_simp; rfl)
             | (fail
                go_simp; rfl)
         simp only [Act.put]))
    refine Order.reads_end ?_
    refine wpAnyH_done (by decide +kernel) ?_ _
    refine NoPanic.normal ?_
    have HW := HWd
    clear HWd HX HI
    go_wp2_with fail
    have hbd : Below w8.heap.size w8 w8.drew := (Below.refl _ _).drew
    have HWd := Lib.hid (HW.out.base.turn (HW.out.base.rd.below hbd) (Turns.of_below hbd))
    clear HW hbd
    refine Order.region_begin (S := Turns (fun k => k = w.heap.size ∨ k = w.heap.size + 1) w8.drew) (by kernel_rfl) ?_
    generalize w8.drew = w9 at *
    clear w8
    have HX := Lib.hid (show ∀ x, Turns (fun k => k = w.heap.size ∨ k = w.heap.size + 1) w9 x → (x.cell? ⟨w.heap.size + 1 + 1, 0, none⟩ = some (.slice none 0 0)) from fun x hx => by
      have h1 := hx.heap HWd.out.base.z (by omega)
      exact (by rw [Lib.cell_of_heap h1]; rfl))
    have HAt := Lib.hid (at_any HWd.out.rd)
    have hpe : place c.L sf c.e = place toks sf en := by rw [HcL.out.1, HcL.out.2]
    rw [hpe] at HAt
    clear hpe
    generalize place toks sf en = pl at *
    refine Order.reads_any (idx := [0, 1]) (by kernel_rfl) (Turns.refl _ _) (fun _ _ _ _ _ h => Order.noPanic_put h) 4 _ _ (by decide +kernel) ?_
    simp only [Order.pick, List.getElem?_toArray, List.getElem?_cons_zero, List.getElem?_cons_succ]
    repeat (first
      | (refine Order.reads_off (by rfl) ?_
         simp only [Act.put, List.setIfInBounds_toArray, List.set_cons_zero, List.set_cons_succ])
      | (apply Order.reads_on
         · rfl
         · intro x hx
           first
             | (go_simp; rfl)
             | (obtain i0 := HX.out x hx
                go_simp; rfl)
         simp only [Act.put, List.setIfInBounds_toArray, List.set_cons_zero, List.set_cons_succ]))
    refine Order.reads_end ?_
    apply Order.acts_any (R := (Turns (fun k => k = w.heap.size ∨ k = w.heap.size + 1))) (fun h k => h.trans k fun _ _ h => h) (i := 2)
    · rfl
    · decide +kernel
    · rfl
    unfold Oper.wp
    go_simp
    refine Calls.mono HAt.out ?_
    rintro e wy ⟨rfl, hby⟩
    refine ⟨Turns.of_below hby, ?_⟩
    have hh := HWd.out.base.on hby
    clear HX HAt HWd hby
    have a0 : wy.cell? ⟨w.heap.size, 0, none⟩ = some (.slice none 0 0) := by rw [Lib.cell_of_heap hh.a]; rfl
    have fa0 := Lib.frozen_of_heap hh.a 0
    apply Order.acts_any (R := (Turns (fun k => k = w.heap.size ∨ k = w.heap.size + 1))) (fun h k => h.trans k fun _ _ h => h) (i := 3)
    · rfl
    · decide +kernel
    · rfl
    unfold Oper.wp
    go_simp
    have tA : Turns (fun k => k = w.heap.size ∨ k = w.heap.size + 1) wy (wy.setCell ⟨w.heap.size, 0, none⟩ (.slice none 0 0)) := ((Turns.refl (fun k => k = w.heap.size ∨ k = w.heap.size + 1) wy).setCell (p := ⟨w.heap.size, 0, none⟩) (.inl rfl) (.slice none 0 0))
    have hAa : (wy.setCell ⟨w.heap.size, 0, none⟩ (.slice none 0 0)).heap[w.heap.size]? = some (.cells #[.slice none 0 0] 24 (0, 0)) := (Lib.heap_setCell_same (i := 0) hh.a (.slice none 0 0))
    have hAp : (wy.setCell ⟨w.heap.size, 0, none⟩ (.slice none 0 0)).heap[w.heap.size + 1]? = some (.cells #[.int .i64 0, .int .i64 0] tPl (0, 0)) := by
      repeat rw [other_set (by omega)]
      exact hh.p
    have hAb : Below w.heap.size w (wy.setCell ⟨w.heap.size, 0, none⟩ (.slice none 0 0)) := hh.below.trans (tA.below hh.below.size fun k hk => by omega)
    refine ⟨tA, ?_⟩
    clear tA
    generalize (wy.setCell ⟨w.heap.size, 0, none⟩ (.slice none 0 0)) = wA at *
    obtain ⟨p0, p1, fp0, fp1⟩ := pl_cells hAp
    unfold plV
    apply Order.acts_any (R := (Turns (fun k => k = w.heap.size ∨ k = w.heap.size + 1))) (fun h k => h.trans k fun _ _ h => h) (i := 4)
    · rfl
    · decide +kernel
    · rfl
    unfold Oper.wp
    go_simp
    refine ⟨setP_turns (Turns.refl _ _) _ (.inr rfl) _ _, ?_⟩
    have hWa : ((wA.setCell ⟨w.heap.size + 1, 0, none⟩ (.int .i64 (pl.1 : Nat))).setCell ⟨w.heap.size + 1, 1, none⟩ (.int .i64 (pl.2 : Nat))).heap[w.heap.size]? = some (.cells #[.slice none 0 0] 24 (0, 0)) := by
      repeat rw [other_set (by omega)]
      exact hAa
    have hWp : ((wA.setCell ⟨w.heap.size + 1, 0, none⟩ (.int .i64 (pl.1 : Nat))).setCell ⟨w.heap.size + 1, 1, none⟩ (.int .i64 (pl.2 : Nat))).heap[w.heap.size + 1]? = some (.cells #[.int .i64 (pl.1 : Nat), .int .i64 (pl.2 : Nat)] tPl (0, 0)) :=
      Lib.heap_setCell_same (i := 1) (Lib.heap_setCell_same (i := 0) hAp _) _
    have hWb := setPl_below' hAb (R := w.heap.size + 1) (by omega) (.int .i64 (pl.1 : Nat)) (.int .i64 (pl.2 : Nat))
    generalize (wA.setCell ⟨w.heap.size + 1, 0, none⟩ (.int .i64 (pl.1 : Nat))).setCell ⟨w.heap.size + 1, 1, none⟩ (.int .i64 (pl.2 : Nat)) = W at *
    refine Order.reads_any (idx := [5]) (by kernel_rfl) (Turns.refl _ _) (fun _ _ _ _ _ h => Order.noPanic_put h) 0 _ _ (by decide +kernel) ?_
    simp only [Order.pick, List.getElem?_toArray, List.getElem?_cons_zero, List.getElem?_cons_succ]
    repeat (first
      | (refine Order.reads_off (by rfl) ?_
         simp only [Act.put, List.setIfInBounds_toArray, List.set_cons_zero, List.set_cons_succ])
      | (apply Order.reads_on
         · rfl
         · intro x hx
           first
             | (go_simp; rfl)
             | (fail
                go_simp; rfl)
         simp only [Act.put]))
    refine Order.reads_end ?_
    refine wpAnyH_done (by decide +kernel) ?_ _
    refine NoPanic.normal ?_
    clear hAa hAp hAb p0 p1 fp0 fp1 hh
    go_wp2_with fail
    have g0 : W.cell? ⟨w.heap.size, 0, none⟩ = some (.slice none 0 0) := by rw [Lib.cell_of_heap hWa]; rfl
    obtain ⟨q0, q1, -, -⟩ := pl_cells hWp
    exact bodyPost_ret (v := .tuple #[.agg #[.slice none 0 0], plV pl, .int .i64 11]) (by simp [results, Tryz.results57, go_sem, plV, g0, q0, q1]) rfl ⟨_, by rw [HE.out]; rfl, by rw [HE.out]; exact ⟨none, 0, rfl, RowS.nil _ _ _ _⟩, hWb⟩

theorem wholeC_any {a0 a1 : Addr} {s : ByteArray} {w : World} (hs : s.size ≤ 4000000) (hg : Glob a0 a1 w) :
    Calls Tryz.prog 57 #[.string s, .func (.func 58) #[] #[]] w fun e y => ∃ v, e = .returned (.tuple #[v, plV (parseA s).2.1, .int .i64 (parseA s).2.2]) ∧ CfS y w.heap.size (parseA s).1 v ∧ Below w.heap.size w y := by
  by_cases h : (Sg.ans (Gly.runes s.data.toList)).1 = 0
  · exact wholeC_ok hs hg h
  · have := wholeC_bad (w := w) hs h
    unfold parseA
    rw [bad_class h]
    exact this
end Gr
end Go.Proofs.YtopncohhagebbaaGreatDoor
