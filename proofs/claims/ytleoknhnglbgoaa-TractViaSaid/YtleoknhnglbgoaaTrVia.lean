/-
  Layer 5 (tract): Via of an Arrow, and of what is none; a statement's question, which recovers.
-/
import Derived.Test.YtleoknhnglbgoaaTrAsB
import Derived.Test.YtleoknhnglbgoaaTrRefs
import Derived.Recover
namespace Go.Proofs.Ytleoknhnglbgoaa
open Go.RowKit
namespace Tr
open Knot (Turns)

set_option maxRecDepth 100000 in
theorem arrow_hit (a b : ByteArray) (w : World) :
    Calls Try.prog 42 #[iArrow a b] w fun e x => e = .returned (.agg #[.string a, .string b]) ∧ Below w.heap.size w x := by
  have f := asArrow_one
  go_enter Try.func42, Try.ntmps42
  go_wp2_with fail
  refine bodyPost_ret (v := .agg #[.string a, .string b]) (by simp [results, Try.results42, go_sem]) rfl ⟨rfl, ?_⟩
  exact fresh_one _ _

/-- A panic that nobody has recovered from. -/
def Panics (e : Ending) : Prop := ∃ t v, e = .panicked [{ v := .iface t v, recovered := false }]
set_option maxRecDepth 100000 in
theorem arrow_This (v : Value) (w : World) : Calls Try.prog 42 #[.iface 71 v] w fun e x => Panics e ∧ Below w.heap.size w x := by
  have f := arrow_no_This
  go_enter Try.func42, Try.ntmps42
  go_wp2_with fail
  exact ⟨rfl, ⟨_, _, rfl⟩, (fresh_one _ _).alloc (by simp) _⟩
set_option maxRecDepth 100000 in
theorem arrow_Computed (v : Value) (w : World) : Calls Try.prog 42 #[.iface 62 v] w fun e x => Panics e ∧ Below w.heap.size w x := by
  have f := arrow_no_Computed
  go_enter Try.func42, Try.ntmps42
  go_wp2_with fail
  exact ⟨rfl, ⟨_, _, rfl⟩, (fresh_one _ _).alloc (by simp) _⟩
set_option maxRecDepth 100000 in
theorem arrow_Union (v : Value) (w : World) : Calls Try.prog 42 #[.iface 66 v] w fun e x => Panics e ∧ Below w.heap.size w x := by
  have f := arrow_no_Union
  go_enter Try.func42, Try.ntmps42
  go_wp2_with fail
  exact ⟨rfl, ⟨_, _, rfl⟩, (fresh_one _ _).alloc (by simp) _⟩
set_option maxRecDepth 100000 in
theorem arrow_Meet (v : Value) (w : World) : Calls Try.prog 42 #[.iface 67 v] w fun e x => Panics e ∧ Below w.heap.size w x := by
  have f := arrow_no_Meet
  go_enter Try.func42, Try.ntmps42
  go_wp2_with fail
  exact ⟨rfl, ⟨_, _, rfl⟩, (fresh_one _ _).alloc (by simp) _⟩
set_option maxRecDepth 100000 in
theorem arrow_Except (v : Value) (w : World) : Calls Try.prog 42 #[.iface 69 v] w fun e x => Panics e ∧ Below w.heap.size w x := by
  have f := arrow_no_Except
  go_enter Try.func42, Try.ntmps42
  go_wp2_with fail
  exact ⟨rfl, ⟨_, _, rfl⟩, (fresh_one _ _).alloc (by simp) _⟩
theorem arrow_none (n : Nd) (u : Value) (w : World) (hk : n.kind ≠ 3) (hn : IsExpr 0 w n u) : Calls Try.prog 42 #[u] w fun e x => Panics e ∧ Below w.heap.size w x := by
  cases n with
  | mk k a b l =>
  rw [IsExpr] at hn
  rcases hn with ⟨rfl, rfl⟩ | ⟨rfl, rfl⟩ | ⟨rfl, rfl⟩ | ⟨rfl, g, o, cp, vs, rfl, -⟩ | ⟨rfl, g, o, cp, vs, rfl, -⟩ | ⟨rfl, x1, x2, rfl, -⟩
  · exact arrow_This _ w
  · exact arrow_Computed _ w
  · exact absurd rfl hk
  · exact arrow_Union _ w
  · exact arrow_Meet _ w
  · exact arrow_Except _ w

set_option maxHeartbeats 1000000 in
set_option maxRecDepth 100000 in
theorem via_none (n : Nd) (u : Value) (w : World) (hk : n.kind ≠ 3) (hn : IsExpr 0 w n u) : Calls Try.prog 33 #[u] w fun e x => Panics e ∧ Below w.heap.size w x := by
  have HC := Lib.hid (arrow_none n u (w.alloc (.cells #[.string ⟨#[]⟩, .string ⟨#[]⟩] 46)) hk (hn.below (fresh_one _ _)))
  clear hn
  go_enter Try.func33, Try.ntmps33
  go_wp2_with fail
  refine HC.out.mono ?_
  rintro e x ⟨⟨t, v, rfl⟩, hx⟩
  exact ⟨rfl, ⟨t, v, rfl⟩, (fresh_one _ _).trans (hx.mono (by simp))⟩

set_option maxHeartbeats 4000000 in
set_option maxRecDepth 100000 in
theorem via_hit (a b : ByteArray) (w : World) (ha : a.size ≤ 16) (hb : b.size ≤ 16) :
    Calls Try.prog 33 #[iArrow a b] w fun e x => e = .returned (.agg #[.string a, .string b]) ∧ Below w.heap.size w x := by
  have HC := Lib.hid (And.intro (fun x => Who.clone_any a x (by omega)) (fun x => Who.clone_any b x (by omega)))
  have HA := Lib.hid (arrow_hit a b (w.alloc (.cells #[.string ⟨#[]⟩, .string ⟨#[]⟩] 46)))
  clear ha hb
  go_enter Try.func33, Try.ntmps33
  go_wp2_with fail
  refine HA.out.mono ?_
  rintro e y ⟨rfl, hy⟩
  have hyb : y.heap[w.heap.size]? = some (.cells #[.string ⟨#[]⟩, .string ⟨#[]⟩] 46 (0, 0)) := (hy.block w.heap.size (by simp)).trans (heap_alloc_new w _)
  have H1 := Lib.hid (And.intro ((fresh_one w _).trans (hy.mono (by simp))) hyb)
  have hys : w.heap.size < y.heap.size := (Array.getElem?_eq_some_iff.1 hyb).1
  clear hy hyb HA
  go_wp2_with fail
  obtain ⟨w0, hw0⟩ : ∃ w0, w0 = (y.alloc (.cells #[.string a, .string b] 46)).drew := ⟨_, rfl⟩
  have hW0 : Below w.heap.size w w0 := by rw [hw0]; exact (H1.out.1.alloc (by omega) _).drew
  have hsz0 : y.heap.size < w0.heap.size := by rw [hw0]; simp [World.drew]
  have hb0 : w0.heap[w.heap.size]? = some (.cells #[.string ⟨#[]⟩, .string ⟨#[]⟩] 46 (0, 0)) := by
    rw [hw0]
    exact ((fresh_one y _).drew.block w.heap.size hys).trans H1.out.2
  have hb2 : w0.heap[y.heap.size]? = some (.cells #[.string a, .string b] 46 (0, 0)) := by
    rw [hw0]
    exact heap_alloc_new y _
  have HX := Lib.hid (show ∀ x, Turns (fun k => k = w.heap.size) w0 x → x.cell? ⟨y.heap.size, 0, none⟩ = some (.string a) ∧ x.cell? ⟨y.heap.size, 1, none⟩ = some (.string b) from fun x hx => by
    have h := cells2 ((hx.block y.heap.size hsz0 (by omega)).trans hb2)
    exact ⟨h.1, h.2.1⟩)
  refine Order.region_begin (S := Turns (fun k => k = w.heap.size) (y.alloc (.cells #[.string a, .string b] 46)).drew) (by kernel_rfl) ?_
  rw [← hw0]
  have H0 := Lib.hid (And.intro hW0 (And.intro hsz0 hb0))
  clear hw0 hW0 hb0 hb2 H1 hsz0
  generalize y.heap.size = Y at *
  clear y
  refine Order.reads_any (idx := [0, 1, 3, 4]) (by kernel_rfl) (Turns.refl _ _) (fun _ _ _ _ _ h => Order.noPanic_put h) 4 _ _ (by decide +kernel) ?_
  simp only [Order.pick, List.getElem?_toArray, List.getElem?_cons_zero, List.getElem?_cons_succ]
  repeat (first
    | (refine Order.reads_off (by rfl) ?_
       simp only [Act.put, List.setIfInBounds_toArray, List.set_cons_zero, List.set_cons_succ])
    | (apply Order.reads_on
       · rfl
       · intro x hx
         first
           | (go_simp; rfl)
           | (obtain ⟨i0, i1⟩ := HX.out x hx
              go_simp; rfl)
       simp only [Act.put, List.setIfInBounds_toArray, List.set_cons_zero, List.set_cons_succ]))
  refine Order.reads_end ?_
  apply Order.acts_any (R := Turns (fun k => k = w.heap.size)) (fun h k => h.trans k fun _ _ h => h) (i := 2)
  · rfl
  · decide +kernel
  · rfl
  unfold Oper.wp
  go_simp
  refine Calls.mono (HC.out.1 _) ?_
  rintro e w1 ⟨rfl, b1⟩
  refine ⟨Turns.of_below b1, ?_⟩
  apply Order.acts_any (R := Turns (fun k => k = w.heap.size)) (fun h k => h.trans k fun _ _ h => h) (i := 5)
  · rfl
  · decide +kernel
  · rfl
  unfold Oper.wp
  go_simp
  refine Calls.mono (HC.out.2 _) ?_
  rintro e w2 ⟨rfl, b2⟩
  refine ⟨Turns.of_below b2, ?_⟩
  have b3 := b1.trans (b2.mono b1.size)
  have hbx := (b3.block w.heap.size (by have := H0.out.2.1; omega)).trans H0.out.2.2
  obtain ⟨c0, c1, g0, g1⟩ := cells2 hbx
  have HY := Lib.hid (H0.out.1.trans (b3.mono H0.out.1.size))
  clear b1 b2 b3 hbx
  refine Order.reads_any (idx := [6]) (by kernel_rfl) (Turns.refl _ _) (fun _ _ _ _ _ h => Order.noPanic_put h) 1 _ _ (by decide +kernel) ?_
  simp only [Order.pick, List.getElem?_toArray, List.getElem?_cons_zero, List.getElem?_cons_succ]
  repeat (first
    | (refine Order.reads_off (by rfl) ?_
       simp only [Act.put, List.setIfInBounds_toArray, List.set_cons_zero, List.set_cons_succ])
    | (apply Order.reads_on
       · rfl
       · intro x hx
         first
           | (go_simp; rfl)
           | (fail
              go_simp; rfl)
       simp only [Act.put, List.setIfInBounds_toArray, List.set_cons_zero, List.set_cons_succ]))
  refine Order.reads_end ?_
  apply Order.acts_any (R := Turns (fun k => k = w.heap.size)) (fun h k => h.trans k fun _ _ h => h) (i := 7)
  · rfl
  · decide +kernel
  · rfl
  unfold Oper.wp
  go_simp
  refine ⟨(Turns.setCell (F := fun k => k = w.heap.size) (Turns.refl _ _) rfl _).setCell rfl _, ?_⟩
  refine wpAnyH_done (by decide +kernel) ?_ _
  refine NoPanic.normal ?_
  go_wp2_with fail
  refine bodyPost_ret (v := .agg #[.string a, .string b]) (by simp [results, Try.results33, go_sem, c0, c1]) rfl ⟨rfl, ?_⟩
  exact (HY.out.setCell (Nat.le_refl _) _).setCell (Nat.le_refl _) _

/-! ### what a statement asks -/
theorem catch_panic (P Q : Nat) (t : TypeId) (pv : Value) (older : List PanicEntry) (w : World) (x0 x1 : Value) (y0 : Value) (hp : w.heap[P]? = some (.cells #[x0, x1] 46 (0, 0))) (hq : w.heap[Q]? = some (.cells #[y0] 4 (0, 0))) (hne : P ≠ Q) :
    CallsD Try.prog 32 #[.pointer (some ⟨P, 0, none⟩), .pointer (some ⟨Q, 0, none⟩)] (.panicking ({ v := .iface t pv, recovered := false } :: older)) w fun e u' w' =>
      e = .returned (.tuple #[]) ∧ u' = .panicking ({ v := .iface t pv, recovered := true } :: older) ∧ w' = ((w.setCell ⟨P, 0, none⟩ (.string ⟨#[]⟩)).setCell ⟨P, 1, none⟩ (.string ⟨#[]⟩)).setCell ⟨Q, 0, none⟩ (.bool false) := by
  have hc0 : w.cell? ⟨P, 0, none⟩ = some x0 := by rw [Lib.cell_of_heap hp]; rfl
  have hc1 : w.cell? ⟨P, 1, none⟩ = some x1 := by rw [Lib.cell_of_heap hp]; rfl
  have hc2 : w.cell? ⟨Q, 0, none⟩ = some y0 := by rw [Lib.cell_of_heap hq]; rfl
  have hf0 : w.frozen? ⟨P, 0, none⟩ = false := Lib.frozen_of_heap hp 0
  have hf1 : w.frozen? ⟨P, 1, none⟩ = false := Lib.frozen_of_heap hp 1
  have hf2 : w.frozen? ⟨Q, 0, none⟩ = false := Lib.frozen_of_heap hq 0
  refine callsD_of_wpS Try.func32 rfl fun c₀ cs hu => ?_
  apply wpS_seq
  apply wpS_region
  simp [wpOpsS, go_sem, recoverD, hu, Try.ntmps32, Exit.thenS]
  refine wpS_cond (t := true) (by simp [Act.eval, Array.replicate]) ?_
  simp only [if_true]
  apply wpS_region
  simp [wpOpsS, go_sem, hc0, hc1, hc2, hf0, hf1, hf2, bodyPostS, results, Try.results32]

theorem catch_idle (p q : Addr) (w : World) :
    CallsD Try.prog 32 #[.pointer (some p), .pointer (some q)] .returning w fun e u' w' => e = .returned (.tuple #[]) ∧ u' = .returning ∧ w' = w := by
  refine callsD_of_wpS Try.func32 rfl fun c₀ cs hu => ?_
  apply wpS_seq
  apply wpS_region
  simp [wpOpsS, go_sem, recoverD, hu, Try.ntmps32, Exit.thenS]
  refine wpS_cond (t := false) (by simp [Act.eval, Array.replicate]) ?_
  simp only [Bool.false_eq_true, if_false]
  refine wpS_of_wp (wp_skip ?_)
  cases c₀
  simp_all [bodyPostS, results, Try.results32]

set_option maxHeartbeats 2000000 in
set_option maxRecDepth 100000 in
theorem asks_none (n : Nd) (u : Value) (w : World) (hk : n.kind ≠ 3) (hn : IsExpr 0 w n u) :
    Calls Try.prog 17 #[u] w fun e x => e = .returned (.tuple #[.agg #[.string ⟨#[]⟩, .string ⟨#[]⟩], .bool false]) ∧ Below w.heap.size w x := by
  have hb : Below w.heap.size w ((w.alloc (.cells #[.string ⟨#[]⟩, .string ⟨#[]⟩] 46)).alloc (.cells #[.bool false] 4)) := (fresh_one w _).alloc (by simp) _
  have HC := Lib.hid (via_none n u _ hk (hn.below hb))
  have h0 : ((w.alloc (.cells #[.string ⟨#[]⟩, .string ⟨#[]⟩] 46)).alloc (.cells #[.bool false] 4)).heap[w.heap.size]? = some (.cells #[.string ⟨#[]⟩, .string ⟨#[]⟩] 46 (0, 0)) := ((fresh_one (w.alloc _) _).block w.heap.size (by simp)).trans (heap_alloc_new w _)
  have h1 : ((w.alloc (.cells #[.string ⟨#[]⟩, .string ⟨#[]⟩] 46)).alloc (.cells #[.bool false] 4)).heap[w.heap.size + 1]? = some (.cells #[.bool false] 4 (0, 0)) := by
    have := heap_alloc_new (w.alloc (.cells #[.string ⟨#[]⟩, .string ⟨#[]⟩] 46)) (.cells #[.bool false] 4)
    simpa using this
  have HB := Lib.hid (And.intro hb (And.intro h0 h1))
  clear hn hb h0 h1
  have hmf : ∀ (fn : Fn) (first cap : Array Value) (w : World), (Instr.makeFunc fn first cap).run Try.prog w = .ok (.func fn first cap) w := fun _ _ _ _ => rfl
  go_enter_defers Try.func17, Try.ntmps17
  go_wp2_with fail
  refine HC.out.mono ?_
  rintro e x ⟨⟨t, v, rfl⟩, hx⟩
  have c0 := (hx.block w.heap.size (by simp; omega)).trans HB.out.2.1
  have c1 := (hx.block (w.heap.size + 1) (by simp)).trans HB.out.2.2
  have HX := Lib.hid (HB.out.1.trans (hx.mono HB.out.1.size))
  clear hx
  refine leaves_cons (f := 32) (args := #[.pointer (some ⟨w.heap.size, 0, none⟩), .pointer (some ⟨w.heap.size + 1, 0, none⟩)]) (by simp) (by simp [go_sem]) ?_
  refine (catch_panic w.heap.size (w.heap.size + 1) t v [] x _ _ _ c0 c1 (by omega)).mono ?_
  rintro e u' w'' ⟨rfl, rfl, rfl⟩
  obtain ⟨d0, d1, -, -⟩ := cells2 c0
  have d2 : x.cell? ⟨w.heap.size + 1, 0, none⟩ = some (.bool false) := by rw [Lib.cell_of_heap c1]; rfl
  simp [Leaves, settle, results, Try.results17, go_sem, d0, d1, d2]
  exact ((HX.out.setCell (Nat.le_refl _) _).setCell (Nat.le_refl _) _).setCell (by simp) _

set_option maxHeartbeats 2000000 in
set_option maxRecDepth 100000 in
theorem asks_hit (a b : ByteArray) (w : World) (ha : a.size ≤ 16) (hb : b.size ≤ 16) :
    Calls Try.prog 17 #[iArrow a b] w fun e x => e = .returned (.tuple #[.agg #[.string a, .string b], .bool true]) ∧ Below w.heap.size w x := by
  have hb : Below w.heap.size w ((w.alloc (.cells #[.string ⟨#[]⟩, .string ⟨#[]⟩] 46)).alloc (.cells #[.bool false] 4)) := (fresh_one w _).alloc (by simp) _
  have HC := Lib.hid (via_hit a b ((w.alloc (.cells #[.string ⟨#[]⟩, .string ⟨#[]⟩] 46)).alloc (.cells #[.bool false] 4)) ha (by assumption))
  have h0 : ((w.alloc (.cells #[.string ⟨#[]⟩, .string ⟨#[]⟩] 46)).alloc (.cells #[.bool false] 4)).heap[w.heap.size]? = some (.cells #[.string ⟨#[]⟩, .string ⟨#[]⟩] 46 (0, 0)) := ((fresh_one (w.alloc _) _).block w.heap.size (by simp)).trans (heap_alloc_new w _)
  have h1 : ((w.alloc (.cells #[.string ⟨#[]⟩, .string ⟨#[]⟩] 46)).alloc (.cells #[.bool false] 4)).heap[w.heap.size + 1]? = some (.cells #[.bool false] 4 (0, 0)) := by
    have := heap_alloc_new (w.alloc (.cells #[.string ⟨#[]⟩, .string ⟨#[]⟩] 46)) (.cells #[.bool false] 4)
    simpa using this
  have HB := Lib.hid (And.intro hb (And.intro h0 h1))
  clear hb h0 h1 ha
  have hmf : ∀ (fn : Fn) (first cap : Array Value) (w : World), (Instr.makeFunc fn first cap).run Try.prog w = .ok (.func fn first cap) w := fun _ _ _ _ => rfl
  go_enter_defers Try.func17, Try.ntmps17
  go_wp2_with fail
  refine HC.out.mono ?_
  rintro e x ⟨rfl, hx⟩
  have c0 := (hx.block w.heap.size (by simp; omega)).trans HB.out.2.1
  have c1 := (hx.block (w.heap.size + 1) (by simp)).trans HB.out.2.2
  obtain ⟨d0, d1, f0, f1⟩ := cells2 c0
  have d2 : x.cell? ⟨w.heap.size + 1, 0, none⟩ = some (.bool false) := by rw [Lib.cell_of_heap c1]; rfl
  have f2 : x.frozen? ⟨w.heap.size + 1, 0, none⟩ = false := Lib.frozen_of_heap c1 0
  have HX := Lib.hid (HB.out.1.trans (hx.mono HB.out.1.size))
  clear hx c0 c1 HB HC
  go_wp2_with fail
  refine leaves_cons (f := 32) (args := #[.pointer (some ⟨w.heap.size, 0, none⟩), .pointer (some ⟨w.heap.size + 1, 0, none⟩)]) (by simp) (by simp [go_sem]) ?_
  refine (catch_idle ⟨w.heap.size, 0, none⟩ ⟨w.heap.size + 1, 0, none⟩ _).mono ?_
  rintro e u' w'' ⟨rfl, rfl, rfl⟩
  simp [Leaves, settle, results, Try.results17, go_sem, d0, d1, d2]
  exact ((HX.out.setCell (Nat.le_refl _) _).setCell (Nat.le_refl _) _).setCell (by simp) _
end Tr
end Go.Proofs.Ytleoknhnglbgoaa
