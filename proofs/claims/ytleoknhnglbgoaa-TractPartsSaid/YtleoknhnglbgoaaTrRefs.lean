/-
  Layer 5 (tract): reference, plain: what an expression itself is.
-/
import Derived.Test.YtleoknhnglbgoaaTrBuild
import Derived.Test.YtleoknhnglbgoaaTrEach
namespace Go.Proofs.Ytleoknhnglbgoaa
open Go.RowKit
namespace Tr
open Knot (Turns)

/-- A reference's value. -/
abbrev refV (r : Rf) : Value := .agg #[.string r.via, .string r.rel, .bool r.odd]
/-- The reference that a node itself is: even, as it stands. -/
def refOf : Nd → Rf
  | .mk k a b _ => if k = 2 then ⟨none0, a, false⟩ else if k = 3 then ⟨a, b, false⟩ else ⟨none0, none0, false⟩
def isRef : Nd → Bool
  | .mk k _ _ _ => k == 2 || k == 3
def isThis : Nd → Bool
  | .mk k _ _ _ => k == 1

set_option maxHeartbeats 2000000 in
set_option maxRecDepth 100000 in
theorem plain_any (n : Nd) (u : Value) (w : World) (hn : IsExpr 0 w n u) :
    Calls Try.prog 31 #[u] w fun e x => e = .returned (.bool (isThis n)) ∧ Below w.heap.size w x := by
  cases n with
  | mk k a b l =>
  rw [IsExpr] at hn
  rcases hn with ⟨rfl, rfl⟩ | ⟨rfl, rfl⟩ | ⟨rfl, rfl⟩ | ⟨rfl, g, o, cp, vs, rfl, -⟩ | ⟨rfl, g, o, cp, vs, rfl, -⟩ | ⟨rfl, x1, x2, rfl, -⟩
  · have f := asThis_hit
    go_enter Try.func31, Try.ntmps31
    go_wp2_with fail
    go_ret
    exact ⟨rfl, fresh_one _ _⟩
  · have f := asThis_Computed
    go_enter Try.func31, Try.ntmps31
    go_wp2_with fail
    go_ret
    exact ⟨rfl, fresh_one _ _⟩
  · have f := asThis_Arrow
    go_enter Try.func31, Try.ntmps31
    go_wp2_with fail
    go_ret
    exact ⟨rfl, fresh_one _ _⟩
  · have f := asThis_Union
    go_enter Try.func31, Try.ntmps31
    go_wp2_with fail
    go_ret
    exact ⟨rfl, fresh_one _ _⟩
  · have f := asThis_Meet
    go_enter Try.func31, Try.ntmps31
    go_wp2_with fail
    go_ret
    exact ⟨rfl, fresh_one _ _⟩
  · have f := asThis_Except
    go_enter Try.func31, Try.ntmps31
    go_wp2_with fail
    go_ret
    exact ⟨rfl, fresh_one _ _⟩

theorem cells3 {R : Nat} {v0 v1 v2 : Value} {T : TypeId} {x : World} (h : x.heap[R]? = some (.cells #[v0, v1, v2] T (0, 0))) : x.cell? ⟨R, 0, none⟩ = some v0 ∧ x.cell? ⟨R, 1, none⟩ = some v1 ∧ x.cell? ⟨R, 2, none⟩ = some v2 ∧ x.frozen? ⟨R, 0, none⟩ = false ∧ x.frozen? ⟨R, 1, none⟩ = false ∧ x.frozen? ⟨R, 2, none⟩ = false :=
  ⟨by rw [Lib.cell_of_heap h]; rfl, by rw [Lib.cell_of_heap h]; rfl, by rw [Lib.cell_of_heap h]; rfl, Lib.frozen_of_heap h 0, Lib.frozen_of_heap h 1, Lib.frozen_of_heap h 2⟩
theorem cells2 {R : Nat} {v0 v1 : Value} {T : TypeId} {x : World} (h : x.heap[R]? = some (.cells #[v0, v1] T (0, 0))) : x.cell? ⟨R, 0, none⟩ = some v0 ∧ x.cell? ⟨R, 1, none⟩ = some v1 ∧ x.frozen? ⟨R, 0, none⟩ = false ∧ x.frozen? ⟨R, 1, none⟩ = false :=
  ⟨by rw [Lib.cell_of_heap h]; rfl, by rw [Lib.cell_of_heap h]; rfl, Lib.frozen_of_heap h 0, Lib.frozen_of_heap h 1⟩
theorem good_words {k : Int} {a b : ByteArray} {l : List Nd} (h : good (.mk k a b l) = true) : (k = 2 → a.size ≤ 16) ∧ (k = 3 → a.size ≤ 16 ∧ b.size ≤ 16) := by
  rw [good, Bool.and_eq_true] at h
  have hf := h.2
  rw [fits] at hf
  refine ⟨?_, ?_⟩
  · rintro rfl
    have hw : word a = true := by revert hf; simp; exact fun h _ _ => h
    exact word_len hw
  · rintro rfl
    have hw : word a = true ∧ word b = true := by revert hf; simp; exact fun h h' _ => ⟨h, h'⟩
    exact ⟨word_len hw.1, word_len hw.2⟩

set_option maxHeartbeats 4000000 in
set_option maxRecDepth 100000 in
theorem reference_any (n : Nd) (u : Value) (w : World) (hg : good n = true) (hn : IsExpr 0 w n u) :
    Calls Try.prog 29 #[u] w fun e x => e = .returned (.tuple #[refV (refOf n), .bool (isRef n)]) ∧ Below w.heap.size w x := by
  cases n with
  | mk k a b l =>
  obtain ⟨hw2, hw3⟩ := good_words hg
  rw [IsExpr] at hn
  rcases hn with ⟨rfl, rfl⟩ | ⟨rfl, rfl⟩ | ⟨rfl, rfl⟩ | ⟨rfl, g, o, cp, vs, rfl, -⟩ | ⟨rfl, g, o, cp, vs, rfl, -⟩ | ⟨rfl, x1, x2, rfl, -⟩
  · have f := asComputed_This
    have f2 := asArrow_This
    clear hw2 hw3 hg
    go_enter Try.func29, Try.ntmps29
    go_wp2_with fail
    refine bodyPost_ret (v := .tuple #[refV ⟨none0, none0, false⟩, .bool false]) (by simp [results, Try.results29, go_sem, none0]) rfl ⟨rfl, ?_⟩
    exact ((fresh_one _ _).alloc (by simp) _).alloc (by simp; omega) _
  · have f := asComputed_hit
    have hs := hw2 rfl
    have HC := Lib.hid (fun x => Who.clone_any a x (by omega))
    have hb : ((w.alloc (.cells #[.string ⟨#[]⟩, .string ⟨#[]⟩, .bool false] 41)).alloc (.cells #[.string a] 62)).heap[w.heap.size]? = some (.cells #[.string ⟨#[]⟩, .string ⟨#[]⟩, .bool false] 41 (0, 0)) := ((fresh_one (w.alloc _) _).block w.heap.size (by simp)).trans (heap_alloc_new w _)
    have HB := Lib.hid hb
    clear hw2 hw3 hg hs hb
    go_enter Try.func29, Try.ntmps29
    go_wp2_with fail
    refine (HC.out _).mono ?_
    rintro e x ⟨rfl, hx⟩
    have hbx := (hx.block w.heap.size (by simp; omega)).trans HB.out
    obtain ⟨c0, c1, c2, f0, f1, f2⟩ := cells3 hbx
    have HX := Lib.hid (((fresh_one w _).alloc (by simp) _).trans (hx.mono (by simp; omega)))
    clear hx hbx HC HB
    go_wp2_with fail
    refine bodyPost_ret (v := .tuple #[refV ⟨none0, a, false⟩, .bool true]) (by simp [results, Try.results29, go_sem, none0, c0, c1, c2]) rfl ⟨rfl, ?_⟩
    exact ((HX.out.setCell (Nat.le_refl _) _).setCell (Nat.le_refl _) _).setCell (Nat.le_refl _) _
  · have f := asComputed_Arrow
    have f2 := asArrow_hit
    obtain ⟨hsa, hsb⟩ := hw3 rfl
    have HC := Lib.hid (And.intro (fun x => Who.clone_any a x (by omega)) (fun x => Who.clone_any b x (by omega)))
    clear hw2 hw3 hg hsa hsb
    go_enter Try.func29, Try.ntmps29
    go_wp2_with fail
    obtain ⟨w0, hw0⟩ : ∃ w0, w0 = (((w.alloc (.cells #[.string ⟨#[]⟩, .string ⟨#[]⟩, .bool false] 41)).alloc (.cells #[.string ⟨#[]⟩] 62)).alloc (.cells #[.string a, .string b] 46)).drew := ⟨_, rfl⟩
    have hW0 : Below w.heap.size w w0 := by rw [hw0]; exact (((fresh_one w _).alloc (by simp) _).alloc (by simp; omega) _).drew
    have hsz0 : w.heap.size + 2 < w0.heap.size := by rw [hw0]; simp [World.drew]
    have hb0 : w0.heap[w.heap.size]? = some (.cells #[.string ⟨#[]⟩, .string ⟨#[]⟩, .bool false] 41 (0, 0)) := by
      rw [hw0]
      exact ((((Below.refl (w.heap.size + 1) (w.alloc _)).alloc (by simp) _).alloc (by simp) _).drew.block w.heap.size (by omega)).trans (heap_alloc_new w _)
    have hb2 : w0.heap[w.heap.size + 2]? = some (.cells #[.string a, .string b] 46 (0, 0)) := by
      rw [hw0]
      have := heap_alloc_new ((w.alloc (.cells #[.string ⟨#[]⟩, .string ⟨#[]⟩, .bool false] 41)).alloc (.cells #[.string ⟨#[]⟩] 62)) (.cells #[.string a, .string b] 46)
      simpa [World.drew] using this
    have HX := Lib.hid (show ∀ x, Turns (fun k => k = w.heap.size) w0 x → x.cell? ⟨w.heap.size + 2, 0, none⟩ = some (.string a) ∧ x.cell? ⟨w.heap.size + 2, 1, none⟩ = some (.string b) from fun x hx => by
      have h := cells2 ((hx.block (w.heap.size + 2) hsz0 (by omega)).trans hb2)
      exact ⟨h.1, h.2.1⟩)
    refine Order.region_begin (S := Turns (fun k => k = w.heap.size) (((w.alloc (.cells #[.string ⟨#[]⟩, .string ⟨#[]⟩, .bool false] 41)).alloc (.cells #[.string ⟨#[]⟩] 62)).alloc (.cells #[.string a, .string b] 46)).drew) (by kernel_rfl) ?_
    rw [← hw0]
    have H0 := Lib.hid (And.intro hW0 (And.intro hsz0 hb0))
    clear hw0 hW0 hsz0 hb0 hb2
    refine Order.reads_any (idx := [0, 1, 3, 4]) (by kernel_rfl) (Turns.refl _ _) (fun _ _ _ _ _ h => Order.noPanic_put h) 5 _ _ (by decide +kernel) ?_
    simp only [Order.pick, List.getElem?_toArray, List.getElem?_cons_zero, List.getElem?_cons_succ]
    repeat (first
      | (refine Order.reads_off (by rfl) ?_
         simp only [Act.put, List.setIfInBounds_toArray, List.set_cons_zero, List.set_cons_succ])
      | (apply Order.reads_on
         · rfl
         · intro x hx
           first
             | (go_simp; rfl)
             | (obtain ⟨i0, i1⟩ := HX.out x hx
                go_simp; rfl)
         simp only [Act.put, List.setIfInBounds_toArray, List.set_cons_zero, List.set_cons_succ]))
    refine Order.reads_end ?_
    apply Order.acts_any (R := Turns (fun k => k = w.heap.size)) (fun h k => h.trans k fun _ _ h => h) (i := 2)
    · rfl
    · decide +kernel
    · rfl
    unfold Oper.wp
    go_simp
    refine Calls.mono (HC.out.1 _) ?_
    rintro e w1 ⟨rfl, b1⟩
    refine ⟨Turns.of_below b1, ?_⟩
    apply Order.acts_any (R := Turns (fun k => k = w.heap.size)) (fun h k => h.trans k fun _ _ h => h) (i := 5)
    · rfl
    · decide +kernel
    · rfl
    unfold Oper.wp
    go_simp
    refine Calls.mono (HC.out.2 _) ?_
    rintro e w2 ⟨rfl, b2⟩
    refine ⟨Turns.of_below b2, ?_⟩
    have b3 := b1.trans (b2.mono b1.size)
    have hbx := (b3.block w.heap.size (by have := H0.out.2.1; omega)).trans H0.out.2.2
    obtain ⟨c0, c1, c2, g0, g1, g2⟩ := cells3 hbx
    have HY := Lib.hid (H0.out.1.trans (b3.mono H0.out.1.size))
    clear b1 b2 b3 hbx
    refine Order.reads_any (idx := [6]) (by kernel_rfl) (Turns.refl _ _) (fun _ _ _ _ _ h => Order.noPanic_put h) 2 _ _ (by decide +kernel) ?_
    simp only [Order.pick, List.getElem?_toArray, List.getElem?_cons_zero, List.getElem?_cons_succ]
    repeat (first
      | (refine Order.reads_off (by rfl) ?_
         simp only [Act.put, List.setIfInBounds_toArray, List.set_cons_zero, List.set_cons_succ])
      | (apply Order.reads_on
         · rfl
         · intro x hx
           first
             | (go_simp; rfl)
             | (fail
                go_simp; rfl)
         simp only [Act.put, List.setIfInBounds_toArray, List.set_cons_zero, List.set_cons_succ]))
    refine Order.reads_end ?_
    apply Order.acts_any (R := Turns (fun k => k = w.heap.size)) (fun h k => h.trans k fun _ _ h => h) (i := 7)
    · rfl
    · decide +kernel
    · rfl
    unfold Oper.wp
    go_simp
    refine ⟨((Turns.setCell (F := fun k => k = w.heap.size) (Turns.refl _ _) rfl _).setCell rfl _).setCell rfl _, ?_⟩
    refine Order.reads_any (idx := [8]) (by kernel_rfl) (Turns.refl _ _) (fun _ _ _ _ _ h => Order.noPanic_put h) 0 _ _ (by decide +kernel) ?_
    simp only [Order.pick, List.getElem?_toArray, List.getElem?_cons_zero, List.getElem?_cons_succ]
    repeat (first
      | (refine Order.reads_off (by rfl) ?_
         simp only [Act.put, List.setIfInBounds_toArray, List.set_cons_zero, List.set_cons_succ])
      | (apply Order.reads_on
         · rfl
         · intro x hx
           first
             | (go_simp; rfl)
             | (fail
                go_simp; rfl)
         simp only [Act.put, List.setIfInBounds_toArray, List.set_cons_zero, List.set_cons_succ]))
    refine Order.reads_end ?_
    refine wpAnyH_done (by decide +kernel) ?_ _
    refine NoPanic.normal ?_
    go_wp2_with fail
    refine bodyPost_ret (v := .tuple #[refV ⟨a, b, false⟩, .bool true]) (by simp [results, Try.results29, go_sem, c0, c1, c2]) rfl ⟨rfl, ?_⟩
    exact ((HY.out.setCell (Nat.le_refl _) _).setCell (Nat.le_refl _) _).setCell (Nat.le_refl _) _
  · have f := asComputed_Union
    have f2 := asArrow_Union
    clear hw2 hw3 hg
    go_enter Try.func29, Try.ntmps29
    go_wp2_with fail
    refine bodyPost_ret (v := .tuple #[refV ⟨none0, none0, false⟩, .bool false]) (by simp [results, Try.results29, go_sem, none0]) rfl ⟨rfl, ?_⟩
    exact ((fresh_one _ _).alloc (by simp) _).alloc (by simp; omega) _
  · have f := asComputed_Meet
    have f2 := asArrow_Meet
    clear hw2 hw3 hg
    go_enter Try.func29, Try.ntmps29
    go_wp2_with fail
    refine bodyPost_ret (v := .tuple #[refV ⟨none0, none0, false⟩, .bool false]) (by simp [results, Try.results29, go_sem, none0]) rfl ⟨rfl, ?_⟩
    exact ((fresh_one _ _).alloc (by simp) _).alloc (by simp; omega) _
  · have f := asComputed_Except
    have f2 := asArrow_Except
    clear hw2 hw3 hg
    go_enter Try.func29, Try.ntmps29
    go_wp2_with fail
    refine bodyPost_ret (v := .tuple #[refV ⟨none0, none0, false⟩, .bool false]) (by simp [results, Try.results29, go_sem, none0]) rfl ⟨rfl, ?_⟩
    exact ((fresh_one _ _).alloc (by simp) _).alloc (by simp; omega) _
end Tr
end Go.Proofs.Ytleoknhnglbgoaa
