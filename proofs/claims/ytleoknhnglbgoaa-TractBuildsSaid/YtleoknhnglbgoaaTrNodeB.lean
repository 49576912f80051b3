/-
  Layer 5 (tract): the node of an Arrow, a Union, a Meet, an Except; of each expression.
-/
import Derived.Test.YtleoknhnglbgoaaTrNode
import Derived.Test.YtleoknhnglbgoaaOrder
namespace Go.Proofs.Ytleoknhnglbgoaa
open Go.RowKit
namespace Tr
open Knot (Turns)

set_option maxHeartbeats 4000000 in
set_option maxRecDepth 100000 in
theorem node_arrow (a b : ByteArray) (w : World) (ha : a.size ≤ 16) (hb : b.size ≤ 16) : Calls Try.prog 64 #[.agg #[.string a, .string b]] w (Noded (.mk 3 a b []) w) := by
  have s0 : b.size ≤ maxLen ∧ a.size ≤ maxLen := by unfold maxLen; omega
  have HS := Lib.hid s0
  have HC := Lib.hid (And.intro (fun x => Who.clone_any a x (by omega)) (fun x => Who.clone_any b x (by omega)))
  clear s0 ha hb
  go_enter Try.func64, Try.ntmps64
  go_wp2_with fail
  obtain ⟨w0, hw0⟩ : ∃ w0, w0 = ((w.alloc (.cells #[.string a, .string b] 46)).alloc (.cells #[.int .i64 0, .string ⟨#[]⟩, .string ⟨#[]⟩, .slice none 0 0] 24)).drew := ⟨_, rfl⟩
  have hW0 : Below w.heap.size w w0 := by rw [hw0]; exact ((fresh_one w _).alloc (by simp) _).drew
  have hsz0 : w.heap.size + 1 < w0.heap.size := by rw [hw0]; simp [World.drew]
  have hb0 : w0.heap[w.heap.size + 1]? = some (.cells #[.int .i64 0, .string ⟨#[]⟩, .string ⟨#[]⟩, .slice none 0 0] 24 (0, 0)) := by
    rw [hw0]
    have := heap_alloc_new (w.alloc (.cells #[.string a, .string b] 46)) (.cells #[.int .i64 0, .string ⟨#[]⟩, .string ⟨#[]⟩, .slice none 0 0] 24)
    simpa [World.drew] using this
  have hb2 : w0.heap[w.heap.size]? = some (.cells #[.string a, .string b] 46 (0, 0)) := by
    rw [hw0]
    exact ((fresh_one (w.alloc _) _).drew.block w.heap.size (by simp)).trans (heap_alloc_new w _)
  have HX := Lib.hid (show ∀ x, Turns (fun k => k = w.heap.size + 1) w0 x → x.cell? ⟨w.heap.size, 0, none⟩ = some (.string a) ∧ x.cell? ⟨w.heap.size, 1, none⟩ = some (.string b) from fun x hx => by
    have h := cells2 ((hx.block w.heap.size (by omega) (by omega)).trans hb2)
    exact ⟨h.1, h.2.1⟩)
  refine Order.region_begin (S := Turns (fun k => k = w.heap.size + 1) ((w.alloc (.cells #[.string a, .string b] 46)).alloc (.cells #[.int .i64 0, .string ⟨#[]⟩, .string ⟨#[]⟩, .slice none 0 0] 24)).drew) (by kernel_rfl) ?_
  rw [← hw0]
  have H0 := Lib.hid (And.intro hW0 (And.intro hsz0 hb0))
  clear hw0 hW0 hb0 hb2 hsz0
  refine Order.reads_any (idx := [0, 1, 3, 4]) (by kernel_rfl) (Turns.refl _ _) (fun _ _ _ _ _ h => Order.noPanic_put h) 4 _ _ (by decide +kernel) ?_
  simp only [Order.pick, List.getElem?_toArray, List.getElem?_cons_zero, List.getElem?_cons_succ]
  repeat (first
    | (refine Order.reads_off (by rfl) ?_
       simp only [Act.put, List.setIfInBounds_toArray, List.set_cons_zero, List.set_cons_succ])
    | (apply Order.reads_on
       · rfl
       · intro x hx
         first
           | (go_simp; rfl)
           | (obtain ⟨i0, i1⟩ := HX.out x hx
              go_simp; rfl)
       simp only [Act.put, List.setIfInBounds_toArray, List.set_cons_zero, List.set_cons_succ]))
  refine Order.reads_end ?_
  apply Order.acts_any (R := Turns (fun k => k = w.heap.size + 1)) (fun h k => h.trans k fun _ _ h => h) (i := 2)
  · rfl
  · decide +kernel
  · rfl
  unfold Oper.wp
  go_simp
  refine Calls.mono (HC.out.1 _) ?_
  rintro e w1 ⟨rfl, b1⟩
  refine ⟨Turns.of_below b1, ?_⟩
  apply Order.acts_any (R := Turns (fun k => k = w.heap.size + 1)) (fun h k => h.trans k fun _ _ h => h) (i := 5)
  · rfl
  · decide +kernel
  · rfl
  unfold Oper.wp
  go_simp
  refine Calls.mono (HC.out.2 _) ?_
  rintro e w2 ⟨rfl, b2⟩
  refine ⟨Turns.of_below b2, ?_⟩
  have b3 := b1.trans (b2.mono b1.size)
  have hbx := (b3.block (w.heap.size + 1) (by have := H0.out.2.1; omega)).trans H0.out.2.2
  obtain ⟨⟨c0, c1, c2, c3⟩, g0, g1, g2, g3⟩ := cells4 hbx
  have HY := Lib.hid (H0.out.1.trans (b3.mono H0.out.1.size))
  clear b1 b2 b3 hbx
  refine Order.reads_any (idx := [6]) (by kernel_rfl) (Turns.refl _ _) (fun _ _ _ _ _ h => Order.noPanic_put h) 1 _ _ (by decide +kernel) ?_
  simp only [Order.pick, List.getElem?_toArray, List.getElem?_cons_zero, List.getElem?_cons_succ]
  repeat (first
    | (refine Order.reads_off (by rfl) ?_
       simp only [Act.put, List.setIfInBounds_toArray, List.set_cons_zero, List.set_cons_succ])
    | (apply Order.reads_on
       · rfl
       · intro x hx
         first
           | (go_simp; rfl)
           | (fail
              go_simp; rfl)
       simp only [Act.put, List.setIfInBounds_toArray, List.set_cons_zero, List.set_cons_succ]))
  refine Order.reads_end ?_
  apply Order.acts_any (R := Turns (fun k => k = w.heap.size + 1)) (fun h k => h.trans k fun _ _ h => h) (i := 7)
  · rfl
  · decide +kernel
  · rfl
  unfold Oper.wp
  go_simp
  refine ⟨(((Turns.setCell (F := fun k => k = w.heap.size + 1) (Turns.refl _ _) rfl _).setCell rfl _).setCell rfl _).setCell rfl _, ?_⟩
  refine wpAnyH_done (by decide +kernel) ?_ _
  refine NoPanic.normal ?_
  go_wp2_with fail
  refine bodyPost_ret (v := node4 3 a b (.slice none 0 0)) (by simp [results, Try.results64, go_sem, c0, c1, c2, c3]) rfl ⟨_, rfl, ?_, ?_, free_nil _ _ _ _⟩
  · rw [NodeIn]
    refine ⟨none, 0, [], rfl, ⟨HS.out.2, HS.out.1⟩, fun h => absurd rfl h, ?_⟩
    rw [NodesIn]
  · exact (((HY.out.setCell (by simp) _).setCell (by simp) _).setCell (by simp) _).setCell (by simp) _

theorem put_other {x : World} {g : Nat} {p : Addr} (u : Value) (h : g ≠ p.block) : (x.setCell p u).heap[g]? = x.heap[g]? := Below.heap_setCell _ _ _ _ h
/-- What nodes answers. -/
def Listed (l : List Nd) (w : World) (e : Ending) (x : World) : Prop := ∃ us, e = .returned (.slice (some ⟨w.heap.size, 0, none⟩) l.length l.length) ∧ RowAt x 4 w.heap.size 0 us ∧ NodesIn (w.heap.size + 1) x l us ∧ Below w.heap.size w x ∧ ∃ cur, x.heap[w.heap.size]? = some (.cells cur 24 (0, 0)) ∧ cur.size = l.length * 4
theorem node_of_list {x : World} {B g : Nat} {k : Int} {l : List Nd} {us : List Value} (hB : B ≤ g) (hr : RowAt x 4 g 0 us) (hn : NodesIn (g + 1) x l us) (hs : (⟨#[]⟩ : ByteArray).size ≤ maxLen) :
    NodeIn B x (.mk k ⟨#[]⟩ ⟨#[]⟩ l) (node4 k ⟨#[]⟩ ⟨#[]⟩ (.slice (some ⟨g, 0, none⟩) l.length l.length)) := by
  rw [NodeIn]
  exact ⟨_, _, us, rfl, ⟨hs, hs⟩, fun _ => ⟨g, 0, rfl, hB, hr⟩, hn.each fun _ _ h => h.mono (by omega)⟩

set_option maxHeartbeats 2000000 in
set_option maxRecDepth 100000 in
theorem node_union (l : List Nd) (s : Value) (g o cap : Nat) (w : World) (hs : s = .slice (some ⟨g, o, none⟩) l.length cap)
    (H : ∀ x, Below w.heap.size w x → Calls Try.prog 67 #[s] x (Listed l x)) : Calls Try.prog 66 #[.agg #[s]] w (Noded (.mk 4 ⟨#[]⟩ ⟨#[]⟩ l) w) := by
  subst hs
  have s0 : (⟨#[]⟩ : ByteArray).size ≤ maxLen := by unfold maxLen; decide
  have HS := Lib.hid s0
  have HC := Lib.hid H
  have hb : ((w.alloc (.cells #[.slice (some ⟨g, o, none⟩) l.length cap] 66)).alloc (.cells #[.int .i64 0, .string ⟨#[]⟩, .string ⟨#[]⟩, .slice none 0 0] 24)).heap[w.heap.size + 1]? = some (.cells #[.int .i64 0, .string ⟨#[]⟩, .string ⟨#[]⟩, .slice none 0 0] 24 (0, 0)) := by
    have := heap_alloc_new (w.alloc (.cells #[.slice (some ⟨g, o, none⟩) l.length cap] 66)) (.cells #[.int .i64 0, .string ⟨#[]⟩, .string ⟨#[]⟩, .slice none 0 0] 24)
    simpa using this
  have HB := Lib.hid (And.intro hb (show Below w.heap.size w ((w.alloc (.cells #[.slice (some ⟨g, o, none⟩) l.length cap] 66)).alloc (.cells #[.int .i64 0, .string ⟨#[]⟩, .string ⟨#[]⟩, .slice none 0 0] 24)) from (fresh_one w _).alloc (by simp) _))
  have HZ := Lib.hid (show ((w.alloc (.cells #[.slice (some ⟨g, o, none⟩) l.length cap] 66)).alloc (.cells #[.int .i64 0, .string ⟨#[]⟩, .string ⟨#[]⟩, .slice none 0 0] 24)).heap.size = w.heap.size + 2 by simp)
  clear s0 H hb
  go_enter Try.func66, Try.ntmps66
  go_wp2_with fail
  refine (HC.out _ HB.out.2).mono ?_
  rintro e x ⟨us, rfl, hr, hn, hx, cur, hcu, hcs⟩
  rw [HZ.out] at hr hn hcu ⊢
  obtain ⟨⟨c0, c1, c2, c3⟩, f0, f1, f2, f3⟩ := cells4 ((hx.block (w.heap.size + 1) (by rw [HZ.out]; omega)).trans HB.out.1)
  have HX := Lib.hid (And.intro (HB.out.2.trans (hx.mono HB.out.2.size)) (And.intro hr hn))
  have HQ := Lib.hid (And.intro hcu hcs)
  clear hcu hcs hx hr hn HC HB HZ
  go_wp2_with fail
  refine bodyPost_ret (v := node4 4 ⟨#[]⟩ ⟨#[]⟩ (.slice (some ⟨w.heap.size + 2, 0, none⟩) l.length l.length)) (by simp [results, Try.results66, go_sem, c0, c1, c2, c3]) rfl ⟨_, rfl, ?_, ?_, free_row (cur := cur) ((put_other _ (by simp)).trans ((put_other _ (by simp)).trans ((put_other _ (by simp)).trans ((put_other _ (by simp)).trans HQ.out.1)))) HQ.out.2⟩
  · have h := node_of_list (B := w.heap.size + 2) (k := 4) (Nat.le_refl _) HX.out.2.1 HX.out.2.2 HS.out
    exact ((((h.put (by simp) _).put (by simp) _).put (by simp) _).put (by simp) _).mono (by omega)
  · exact (((HX.out.1.setCell (by simp) _).setCell (by simp) _).setCell (by simp) _).setCell (by simp) _

set_option maxHeartbeats 2000000 in
set_option maxRecDepth 100000 in
theorem node_meet (l : List Nd) (s : Value) (g o cap : Nat) (w : World) (hs : s = .slice (some ⟨g, o, none⟩) l.length cap)
    (H : ∀ x, Below w.heap.size w x → Calls Try.prog 67 #[s] x (Listed l x)) : Calls Try.prog 68 #[.agg #[s]] w (Noded (.mk 5 ⟨#[]⟩ ⟨#[]⟩ l) w) := by
  subst hs
  have s0 : (⟨#[]⟩ : ByteArray).size ≤ maxLen := by unfold maxLen; decide
  have HS := Lib.hid s0
  have HC := Lib.hid H
  have hb : ((w.alloc (.cells #[.slice (some ⟨g, o, none⟩) l.length cap] 67)).alloc (.cells #[.int .i64 0, .string ⟨#[]⟩, .string ⟨#[]⟩, .slice none 0 0] 24)).heap[w.heap.size + 1]? = some (.cells #[.int .i64 0, .string ⟨#[]⟩, .string ⟨#[]⟩, .slice none 0 0] 24 (0, 0)) := by
    have := heap_alloc_new (w.alloc (.cells #[.slice (some ⟨g, o, none⟩) l.length cap] 67)) (.cells #[.int .i64 0, .string ⟨#[]⟩, .string ⟨#[]⟩, .slice none 0 0] 24)
    simpa using this
  have HB := Lib.hid (And.intro hb (show Below w.heap.size w ((w.alloc (.cells #[.slice (some ⟨g, o, none⟩) l.length cap] 67)).alloc (.cells #[.int .i64 0, .string ⟨#[]⟩, .string ⟨#[]⟩, .slice none 0 0] 24)) from (fresh_one w _).alloc (by simp) _))
  have HZ := Lib.hid (show ((w.alloc (.cells #[.slice (some ⟨g, o, none⟩) l.length cap] 67)).alloc (.cells #[.int .i64 0, .string ⟨#[]⟩, .string ⟨#[]⟩, .slice none 0 0] 24)).heap.size = w.heap.size + 2 by simp)
  clear s0 H hb
  go_enter Try.func68, Try.ntmps68
  go_wp2_with fail
  refine (HC.out _ HB.out.2).mono ?_
  rintro e x ⟨us, rfl, hr, hn, hx, cur, hcu, hcs⟩
  rw [HZ.out] at hr hn hcu ⊢
  obtain ⟨⟨c0, c1, c2, c3⟩, f0, f1, f2, f3⟩ := cells4 ((hx.block (w.heap.size + 1) (by rw [HZ.out]; omega)).trans HB.out.1)
  have HX := Lib.hid (And.intro (HB.out.2.trans (hx.mono HB.out.2.size)) (And.intro hr hn))
  have HQ := Lib.hid (And.intro hcu hcs)
  clear hcu hcs hx hr hn HC HB HZ
  go_wp2_with fail
  refine bodyPost_ret (v := node4 5 ⟨#[]⟩ ⟨#[]⟩ (.slice (some ⟨w.heap.size + 2, 0, none⟩) l.length l.length)) (by simp [results, Try.results68, go_sem, c0, c1, c2, c3]) rfl ⟨_, rfl, ?_, ?_, free_row (cur := cur) ((put_other _ (by simp)).trans ((put_other _ (by simp)).trans ((put_other _ (by simp)).trans ((put_other _ (by simp)).trans HQ.out.1)))) HQ.out.2⟩
  · have h := node_of_list (B := w.heap.size + 2) (k := 5) (Nat.le_refl _) HX.out.2.1 HX.out.2.2 HS.out
    exact ((((h.put (by simp) _).put (by simp) _).put (by simp) _).put (by simp) _).mono (by omega)
  · exact (((HX.out.1.setCell (by simp) _).setCell (by simp) _).setCell (by simp) _).setCell (by simp) _

set_option maxHeartbeats 2000000 in
set_option maxRecDepth 100000 in
theorem node_except (l : List Nd) (t0 t1 : TypeId) (z0 z1 : Value) (w : World) (hl : l.length = 2)
    (H : ∀ x, Below w.heap.size w x → (∀ i u, [Value.iface t0 z0, Value.iface t1 z1][i]? = some u → x.cell? ⟨w.heap.size + 2, 0 + i, none⟩ = some u) → Calls Try.prog 67 #[.slice (some ⟨w.heap.size + 2, 0, none⟩) l.length 2] x (Listed l x)) :
    Calls Try.prog 69 #[.agg #[.iface t0 z0, .iface t1 z1]] w (Noded (.mk 6 ⟨#[]⟩ ⟨#[]⟩ l) w) := by
  have s0 : (⟨#[]⟩ : ByteArray).size ≤ maxLen := by unfold maxLen; decide
  have HS := Lib.hid s0
  obtain ⟨w3, hw3⟩ : ∃ w3, w3 = ((w.alloc (.cells #[.iface t0 z0, .iface t1 z1] 69)).alloc (.cells #[.int .i64 0, .string ⟨#[]⟩, .string ⟨#[]⟩, .slice none 0 0] 24)).alloc (.cells #[.iface t0 z0, .iface t1 z1] 28) := ⟨_, rfl⟩
  have hb : w3.heap[w.heap.size + 1]? = some (.cells #[.int .i64 0, .string ⟨#[]⟩, .string ⟨#[]⟩, .slice none 0 0] 24 (0, 0)) := by
    rw [hw3]
    have := heap_alloc_new (w.alloc (.cells #[.iface t0 z0, .iface t1 z1] 69)) (.cells #[.int .i64 0, .string ⟨#[]⟩, .string ⟨#[]⟩, .slice none 0 0] 24)
    rw [World.size_alloc] at this
    exact ((fresh_one _ _).block (w.heap.size + 1) (by simp)).trans this
  have hr : w3.heap[w.heap.size + 2]? = some (.cells #[.iface t0 z0, .iface t1 z1] 28 (0, 0)) := by
    rw [hw3]
    have := heap_alloc_new ((w.alloc (.cells #[.iface t0 z0, .iface t1 z1] 69)).alloc (.cells #[.int .i64 0, .string ⟨#[]⟩, .string ⟨#[]⟩, .slice none 0 0] 24)) (.cells #[.iface t0 z0, .iface t1 z1] 28)
    simpa using this
  have hB : Below w.heap.size w w3 := by rw [hw3]; exact ((fresh_one w _).alloc (by simp) _).alloc (by simp; omega) _
  have hz : w3.heap.size = w.heap.size + 3 := by rw [hw3]; simp
  have hC := H w3 hB (fun i u hu => by
    rw [Lib.cell_of_heap hr, Nat.zero_add]
    match i, hu with
    | 0, hu => exact hu
    | 1, hu => exact hu
    | i + 2, hu => simp at hu)
  have HC := Lib.hid hC
  have HB := Lib.hid (And.intro hb (And.intro hB hz))
  rw [hl] at HC
  have HL := Lib.hid hl
  clear s0 H hb hr hB hz hC
  go_enter Try.func69, Try.ntmps69
  go_wp2_with fail
  rw [← hw3]
  refine HC.out.mono ?_
  rintro e x ⟨us, rfl, hr, hn, hx, cur, hcu, hcs⟩
  rw [HB.out.2.2] at hr hn hcu ⊢
  obtain ⟨⟨c0, c1, c2, c3⟩, f0, f1, f2, f3⟩ := cells4 ((hx.block (w.heap.size + 1) (by rw [HB.out.2.2]; omega)).trans HB.out.1)
  have HX := Lib.hid (And.intro (HB.out.2.1.trans (hx.mono HB.out.2.1.size)) (And.intro hr hn))
  have HQ := Lib.hid (And.intro hcu hcs)
  clear hcu hcs hx hr hn HC HB hw3 w3 hl
  rw [HL.out] at HQ ⊢
  go_wp2_with fail
  refine bodyPost_ret (v := node4 6 ⟨#[]⟩ ⟨#[]⟩ (.slice (some ⟨w.heap.size + 3, 0, none⟩) 2 2)) (by simp [results, Try.results69, go_sem, c0, c1, c2, c3]) rfl ⟨_, rfl, ?_, ?_, free_row (cur := cur) ((put_other _ (by simp)).trans ((put_other _ (by simp)).trans ((put_other _ (by simp)).trans ((put_other _ (by simp)).trans HQ.out.1)))) HQ.out.2⟩
  · have h := node_of_list (B := w.heap.size + 3) (k := 6) (Nat.le_refl _) HX.out.2.1 HX.out.2.2 HS.out
    rw [HL.out] at h
    exact ((((h.put (by simp) _).put (by simp) _).put (by simp) _).put (by simp) _).mono (by omega)
  · exact (((HX.out.1.setCell (by simp) _).setCell (by simp) _).setCell (by simp) _).setCell (by simp) _

theorem fits_nil {k : Int} {a b : ByteArray} {l : List Nd} (h : fits (.mk k a b l) = true) : (k = 1 → a = ⟨#[]⟩ ∧ b = ⟨#[]⟩ ∧ l = []) ∧ (k = 2 → b = ⟨#[]⟩ ∧ l = []) ∧ (k = 3 → l = []) ∧ (k = 4 → a = ⟨#[]⟩ ∧ b = ⟨#[]⟩) ∧ (k = 5 → a = ⟨#[]⟩ ∧ b = ⟨#[]⟩) ∧ (k = 6 → a = ⟨#[]⟩ ∧ b = ⟨#[]⟩ ∧ l.length = 2) := by
  rw [fits] at h
  refine ⟨?_, ?_, ?_, ?_, ?_, ?_⟩ <;> rintro rfl <;> revert h <;> simp
  · exact fun h1 h2 h3 => ⟨nil_eq h1, nil_eq h2, h3⟩
  · exact fun _ h2 h3 => ⟨nil_eq h2, h3⟩
  · exact fun h1 h2 _ => ⟨nil_eq h1, nil_eq h2⟩
  · exact fun h1 h2 _ => ⟨nil_eq h1, nil_eq h2⟩
  · exact fun h1 h2 h3 => ⟨nil_eq h1, nil_eq h2, h3⟩

/-- Each expression's Node answers its node. -/
theorem node_any : ∀ (q : Nat) (n : Nd) (u : Value) (w : World), size n ≤ q → size n ≤ 300 → good n = true → IsExpr 0 w n u → Meth u n w := by
  intro q
  induction q with
  | zero => intro n u w h; have := size_pos n; omega
  | succ q ih =>
    intro n u w hk hl hg hn
    cases n with
    | mk k a b l =>
    obtain ⟨hw2, hw3⟩ := good_words hg
    rw [good, Bool.and_eq_true] at hg
    obtain ⟨hgs, hf⟩ := hg
    obtain ⟨f1, f2, f3, f4, f5, f6⟩ := fits_nil hf
    have HH : ∀ n ∈ l, ∀ u x, IsExpr 0 x n u → Meth u n x := fun n hn u x => ih n u x (by rw [size] at hk; have := sizes_mem hn; omega) (by rw [size] at hl; have := sizes_mem hn; omega) (goods_mem hgs hn)
    have hll : l.length ≤ 300 := by rw [size] at hl; have := sizes_len l; omega
    rw [IsExpr] at hn
    rcases hn with ⟨rfl, rfl⟩ | ⟨rfl, rfl⟩ | ⟨rfl, rfl⟩ | ⟨rfl, g, o, cp, vs, rfl, -, hc, hk'⟩ | ⟨rfl, g, o, cp, vs, rfl, -, hc, hk'⟩ | ⟨rfl, x1, x2, rfl, hk'⟩
    · obtain ⟨rfl, rfl, rfl⟩ := f1 rfl
      exact ⟨_, _, meth_This _, node_this w⟩
    · obtain ⟨rfl, rfl⟩ := f2 rfl
      exact ⟨_, _, meth_Computed _, node_computed a w (hw2 rfl)⟩
    · obtain rfl := f3 rfl
      exact ⟨_, _, meth_Arrow _, node_arrow a b w (hw3 rfl).1 (hw3 rfl).2⟩
    · obtain ⟨rfl, rfl⟩ := f4 rfl
      exact ⟨_, _, meth_Union _, node_union l _ g o cp w rfl fun x hx => nodes_of 0 l g o cp vs x (hk'.below hx) (fun i u hu => (hx.cell (World.block_lt_of_cell? w _ (hc i u hu))).trans (hc i u hu)) hll HH⟩
    · obtain ⟨rfl, rfl⟩ := f5 rfl
      exact ⟨_, _, meth_Meet _, node_meet l _ g o cp w rfl fun x hx => nodes_of 0 l g o cp vs x (hk'.below hx) (fun i u hu => (hx.cell (World.block_lt_of_cell? w _ (hc i u hu))).trans (hc i u hu)) hll HH⟩
    · obtain ⟨rfl, rfl, hl2⟩ := f6 rfl
      have h0 := hk'.at (i := 0) (by omega)
      have h1 := hk'.at (i := 1) (by omega)
      obtain ⟨y0, e0, hy0⟩ := h0
      obtain ⟨y1, e1, hy1⟩ := h1
      obtain rfl : x1 = y0 := by simpa using e0
      obtain rfl : x2 = y1 := by simpa using e1
      obtain ⟨t0, z0, rfl⟩ := hy0.iface
      obtain ⟨t1, z1, rfl⟩ := hy1.iface
      exact ⟨_, _, meth_Except _, node_except l t0 t1 z0 z1 w hl2 fun x hx hc => nodes_of 0 l (w.heap.size + 2) 0 2 _ x (hk'.below hx) hc hll HH⟩
end Tr
end Go.Proofs.Ytleoknhnglbgoaa
