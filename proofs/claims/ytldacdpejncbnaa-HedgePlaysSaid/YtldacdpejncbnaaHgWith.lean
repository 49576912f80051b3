/-
  Layer 15: a tree with one entry more.
-/
import Derived.Test.YtldacdpejncbnaaHgFind
namespace Go.Proofs.Ytldacdpejncbnaa
open Go.RowKit
namespace Hg
open Knot (Turns NewRow)

theorem T.size_ins (nb : Nat) (q : ByteArray) (x : Int) (t : T) : (T.ins nb q x t).size = t.size + 1 := by
  rw [← T.blks_len, (T.blks_ins nb q x t).length_eq, List.length_cons, T.blks_len]
theorem T.mem_ins {nb : Nat} {q : ByteArray} {x : Int} {t : T} {k : Nat} (h : k ∈ (T.ins nb q x t).blks) : k = nb ∨ k ∈ t.blks := List.mem_cons.1 ((T.blks_ins nb q x t).mem_iff.1 h)
theorem T.nodup_ins {nb : Nat} (q : ByteArray) (x : Int) {t : T} (h : t.blks.Nodup) (hn : nb ∉ t.blks) : (T.ins nb q x t).blks.Nodup := (T.blks_ins nb q x t).nodup_iff.2 (List.nodup_cons.2 ⟨hn, h⟩)
theorem nodup_node {b : Nat} {A B : List Nat} : (b :: (A ++ B)).Nodup ↔ b ∉ A ∧ b ∉ B ∧ A.Nodup ∧ B.Nodup ∧ ∀ q ∈ A, q ∉ B := by
  rw [List.nodup_cons, List.mem_append, not_or, List.nodup_append]
  exact ⟨fun ⟨⟨a, b⟩, c, d, e⟩ => ⟨a, b, c, d, fun q h1 h2 => e q h1 q h2 rfl⟩, fun ⟨a, b, c, d, e⟩ => ⟨⟨a, b⟩, c, d, fun q h1 r h2 hc => e q h1 (hc ▸ h2)⟩⟩
/-- What with is to do. -/
def Adds (q : ByteArray) (x : Int) (t : T) : Prop := ∀ w, IsT w t → t.blks.Nodup → t.size ≤ 50000 →
  Calls Try.prog 26 #[.pointer (loc t), .agg #[.string q, .int .i64 x]] w fun e y => ∃ nb, e = .returned (.pointer (loc (T.ins nb q x t))) ∧ w.heap.size ≤ nb ∧ Turns (fun k => k ∈ t.blks) w y ∧ IsT y (T.ins nb q x t)
set_option maxHeartbeats 4000000 in
set_option maxRecDepth 100000 in
theorem adds_nil (q : ByteArray) (x : Int) : Adds q x .nil := by
  intro w _ _ _
  rw [show loc T.nil = none from rfl]
  go_enter Try.func26, Try.ntmps26
  go_wp2_with fail
  go_ret
  refine ⟨w.heap.size + 1, rfl, by omega, Turns.of_below (((Below.refl _ _).alloc (Nat.le_refl _) _).alloc (by simp) _), ?_, trivial, trivial⟩
  have := heap_alloc_new (w.alloc (.cells #[.string q, .int .i64 x] tEn)) (.cells #[.string q, .int .i64 x, .int .i64 1, .pointer none, .pointer none] tNd)
  rw [show (w.alloc (.cells #[.string q, .int .i64 x] tEn)).heap.size = w.heap.size + 1 by simp] at this
  exact this
set_option maxHeartbeats 4000000 in
set_option maxRecDepth 100000 in
theorem adds_left {q k : ByteArray} {x a : Int} {b : Nat} {l r : T} (hc : cmp q k < 0) (ih : Adds q x l) : Adds q x (.bin b l k a r) := by
  intro w h ha hs
  have hb : Below w.heap.size w (w.alloc (.cells #[.string q, .int .i64 x] tEn)) := (Below.refl _ _).alloc (Nat.le_refl _) _
  obtain ⟨W, hW⟩ : ∃ W, W = w.alloc (.cells #[.string q, .int .i64 x] tEn) := ⟨_, rfl⟩
  have hn := heap_alloc_new w (.cells #[.string q, .int .i64 x] tEn)
  rw [← hW] at hb hn
  have h0 := h.below hb
  have HC := Lib.hid (fun W => compare_any q k W)
  obtain ⟨d, hd⟩ : ∃ d, d = cmp q k := ⟨_, rfl⟩
  rw [← hd] at HC hc
  have hlt := h.lt
  have H := Lib.hid (And.intro h0 (And.intro hb (And.intro ha (And.intro hs (And.intro hlt (And.intro hn h))))))
  have HD := Lib.hid hd
  have HI := Lib.hid ih
  have HW := Lib.hid hW
  obtain ⟨c0, c1, c2, c3, c4⟩ := h0.1.cells
  have g0 : W.cell? ⟨w.heap.size, 0, none⟩ = some (.string q) := by rw [Lib.cell_of_heap hn]; rfl
  have g1 : W.cell? ⟨w.heap.size, 1, none⟩ = some (.int .i64 x) := by rw [Lib.cell_of_heap hn]; rfl
  rw [show loc (.bin b l k a r) = some ⟨b, 0, none⟩ from rfl]
  clear h h0 ha hs hlt hn hb hd ih hW
  go_enter Try.func26, Try.ntmps26
  go_wp2_with fail
  rw [← HW.out]
  go_quiet ((go_at_call 36; exact Calls.quiet_of_same (HC.out _)))
  clear c0 c1 c2 c3 c4 g0 g1 HC HW
  have hb := below_drewN H.out.2.1 nq
  have hx := H.out.1.below (below_drewN (Below.refl _ _) nq)
  have hn := (below_drewN (Below.refl W.heap.size W) nq).block w.heap.size (Array.getElem?_eq_some_iff.1 H.out.2.2.2.2.2.1).1
  rw [H.out.2.2.2.2.2.1] at hn
  generalize W.drewN nq = X at *
  obtain ⟨c0, c1, c2, c3, c4⟩ := hx.1.cells
  have g0 : X.cell? ⟨w.heap.size, 0, none⟩ = some (.string q) := by rw [Lib.cell_of_heap hn]; rfl
  have g1 : X.cell? ⟨w.heap.size, 1, none⟩ = some (.int .i64 x) := by rw [Lib.cell_of_heap hn]; rfl
  have HX := Lib.hid (And.intro hb hx)
  clear hb hx hn
  go_wp2_with fail
  refine Order.beginE (Same X.drew) [0, 6, 7, 8, 9] (by kernel_rfl) ?_
  apply Order.freeC (i := 0)
  · rfl
  · kernel_rfl
  · decide
  · decide +kernel
  · decide +kernel
  · exact fun _ _ _ _ _ h => Order.noPanic_put h
  · rfl
  · intro x
    go_simp
    rfl
  refine Order.readsC_any (idx := [1, 2, 3, 4, 5]) (by kernel_rfl) (Same.refl _) (fun _ _ _ _ _ h => Order.noPanic_put h) 4 _ _ (by decide +kernel) ?_
  simp only [Order.pick, List.getElem?_toArray, List.getElem?_cons_zero, List.getElem?_cons_succ]
  repeat (first
    | (refine Order.reads_off (by rfl) ?_
       simp only [Act.put, List.setIfInBounds_toArray, List.set_cons_zero, List.set_cons_succ])
    | (apply Order.reads_on
       · rfl
       · intro x hx
         first
           | (unfold Same at hx
              subst hx
              go_simp; rfl)
       simp only [Act.put, List.setIfInBounds_toArray]))
  refine Order.reads_end ?_
  apply Order.lastE (i := 6)
  · rfl
  · decide +kernel
  · decide
  · rfl
  unfold Oper.wp
  go_simp
  obtain ⟨p1, p2, p3, p4, p5⟩ := nodup_node.1 H.out.2.2.1
  have hsz := H.out.2.2.2.1
  simp only [T.size] at hsz
  refine (HI.out X.drew (HX.out.2.2.1.drew) p3 (by omega)).mono ?_
  rintro e y ⟨nb, rfl, hnb, ht, hy⟩
  have hd0 : Turns (fun _ => False) X X.drew := Turns.of_below (Below.refl _ _).drew
  have n1 := (HX.out.2.1.turn hd0 id).turn ht p1
  have o1 := (HX.out.2.2.2.turn hd0 fun _ _ h => h).turn ht fun q hq hc => p5 q hc hq
  have hxs : X.drew.heap.size = X.heap.size := rfl
  have hws := HX.out.1.size
  rw [hxs] at hnb
  have hfresh : ∀ q ∈ (T.bin b l k a r).blks, q < w.heap.size := H.out.2.2.2.2.1
  have hnn : ∀ q ∈ (T.bin b l k a r).blks, q ≠ nb := fun q hq e => by have := hfresh q hq; omega
  have hbi : b ∉ (T.ins nb q x l).blks := fun h => (T.mem_ins h).elim (hnn b List.mem_cons_self) p1
  have t2 := turn1 y b 3 (.pointer (loc (T.ins nb q x l)))
  have hTop : Top (y.setCell ⟨b, 3, none⟩ (.pointer (loc (T.ins nb q x l)))) b (T.ins nb q x l) k a r := by
    refine ⟨⟨_, n1.setl _⟩, hy.turn t2 (mem_ne hbi), o1.turn t2 (mem_ne p2), nodup_node.2 ⟨hbi, p2, T.nodup_ins q x p3 ?_, p4, ?_⟩, by rw [T.size_ins]; omega⟩
    · exact fun h => hnn nb (List.mem_cons_of_mem _ (List.mem_append_left _ h)) rfl
    · exact fun q hq hc => (T.mem_ins hq).elim (hnn q (List.mem_cons_of_mem _ (List.mem_append_right _ hc))) fun h => p5 q h hc
  have HT := Lib.hid (And.intro hTop (And.intro ht (And.intro hd0 (And.intro t2 (And.intro hnb (And.intro hws hnn))))))
  obtain ⟨e0, e1, e2, e3, e4⟩ := n1.cells
  have ef := n1.free 3
  clear hTop ht hd0 t2 hnb hws hnn hbi hfresh n1 o1 hxs hsz hy p1 p2 p3 p4 p5
  apply Order.freeC (i := 7)
  · rfl
  · kernel_rfl
  · decide
  · decide +kernel
  · decide +kernel
  · exact fun _ _ _ _ _ h => Order.noPanic_put h
  · rfl
  · intro x
    go_simp
    rfl
  apply Order.freeC (i := 8)
  · rfl
  · kernel_rfl
  · decide
  · decide +kernel
  · decide +kernel
  · exact fun _ _ _ _ _ h => Order.noPanic_put h
  · rfl
  · intro x
    go_simp
    rfl
  apply Order.lastE (i := 9)
  · rfl
  · decide +kernel
  · decide
  · rfl
  unfold Oper.wp
  go_simp
  refine Order.doneE (by decide +kernel) ?_ _
  refine NoPanic.normal ?_
  clear c0 c1 c2 c3 c4 g0 g1 e0 e1 e2 e3 e4 ef
  generalize y.setCell ⟨b, 3, none⟩ (.pointer (loc (T.ins nb q x l))) = Z at *
  go_wp2_with fail
  refine (balanced_any _ HT.out.1).mono ?_
  rintro e z ⟨rfl, ht3, hz⟩
  go_wp2_with fail
  go_ret
  obtain ⟨hTop, ht, hd0, t2, hnb, hws, hnn⟩ := HT.out
  have hi : T.ins nb q x (.bin b l k a r) = (.bal b (T.ins nb q x l) k a r) := by rw [T.ins, if_pos (by rw [← HD.out]; omega)]
  refine ⟨nb, ?_, by omega, ?_, ?_⟩
  · rw [hi]; rfl
  rotate_left
  · rw [hi]; exact hz
  have t1 : Turns (fun i => i ∈ (T.bin b l k a r).blks) w X := Turns.of_below HX.out.1
  replace t1 := t1.trans hd0 fun _ _ h => h.elim
  replace t1 := t1.trans ht fun i _ h => List.mem_cons_of_mem _ (List.mem_append_left _ h)
  replace t1 := t1.trans t2 fun i _ h => by rw [h]; exact List.mem_cons_self
  refine t1.trans ht3 fun i hi h => ?_
  rcases List.mem_cons.1 h with rfl | h
  · exact List.mem_cons_self
  · rcases List.mem_append.1 h with h | h
    · rcases T.mem_ins h with rfl | h
      · omega
      · exact List.mem_cons_of_mem _ (List.mem_append_left _ h)
    · exact List.mem_cons_of_mem _ (List.mem_append_right _ h)
set_option maxHeartbeats 4000000 in
set_option maxRecDepth 100000 in
theorem adds_right {q k : ByteArray} {x a : Int} {b : Nat} {l r : T} (hc : ¬ cmp q k < 0) (ih : Adds q x r) : Adds q x (.bin b l k a r) := by
  intro w h ha hs
  have hb : Below w.heap.size w (w.alloc (.cells #[.string q, .int .i64 x] tEn)) := (Below.refl _ _).alloc (Nat.le_refl _) _
  obtain ⟨W, hW⟩ : ∃ W, W = w.alloc (.cells #[.string q, .int .i64 x] tEn) := ⟨_, rfl⟩
  have hn := heap_alloc_new w (.cells #[.string q, .int .i64 x] tEn)
  rw [← hW] at hb hn
  have h0 := h.below hb
  have HC := Lib.hid (fun W => compare_any q k W)
  obtain ⟨d, hd⟩ : ∃ d, d = cmp q k := ⟨_, rfl⟩
  rw [← hd] at HC hc
  have hlt := h.lt
  have H := Lib.hid (And.intro h0 (And.intro hb (And.intro ha (And.intro hs (And.intro hlt (And.intro hn h))))))
  have HD := Lib.hid hd
  have HI := Lib.hid ih
  have HW := Lib.hid hW
  obtain ⟨c0, c1, c2, c3, c4⟩ := h0.1.cells
  have g0 : W.cell? ⟨w.heap.size, 0, none⟩ = some (.string q) := by rw [Lib.cell_of_heap hn]; rfl
  have g1 : W.cell? ⟨w.heap.size, 1, none⟩ = some (.int .i64 x) := by rw [Lib.cell_of_heap hn]; rfl
  rw [show loc (.bin b l k a r) = some ⟨b, 0, none⟩ from rfl]
  clear h h0 ha hs hlt hn hb hd ih hW
  go_enter Try.func26, Try.ntmps26
  go_wp2_with fail
  rw [← HW.out]
  go_quiet ((go_at_call 36; exact Calls.quiet_of_same (HC.out _)))
  clear c0 c1 c2 c3 c4 g0 g1 HC HW
  have hb := below_drewN H.out.2.1 nq
  have hx := H.out.1.below (below_drewN (Below.refl _ _) nq)
  have hn := (below_drewN (Below.refl W.heap.size W) nq).block w.heap.size (Array.getElem?_eq_some_iff.1 H.out.2.2.2.2.2.1).1
  rw [H.out.2.2.2.2.2.1] at hn
  generalize W.drewN nq = X at *
  obtain ⟨c0, c1, c2, c3, c4⟩ := hx.1.cells
  have g0 : X.cell? ⟨w.heap.size, 0, none⟩ = some (.string q) := by rw [Lib.cell_of_heap hn]; rfl
  have g1 : X.cell? ⟨w.heap.size, 1, none⟩ = some (.int .i64 x) := by rw [Lib.cell_of_heap hn]; rfl
  have HX := Lib.hid (And.intro hb hx)
  clear hb hx hn
  go_wp2_with fail
  refine Order.beginE (Same X.drew) [0, 6, 7, 8, 9] (by kernel_rfl) ?_
  apply Order.freeC (i := 0)
  · rfl
  · kernel_rfl
  · decide
  · decide +kernel
  · decide +kernel
  · exact fun _ _ _ _ _ h => Order.noPanic_put h
  · rfl
  · intro x
    go_simp
    rfl
  refine Order.readsC_any (idx := [1, 2, 3, 4, 5]) (by kernel_rfl) (Same.refl _) (fun _ _ _ _ _ h => Order.noPanic_put h) 4 _ _ (by decide +kernel) ?_
  simp only [Order.pick, List.getElem?_toArray, List.getElem?_cons_zero, List.getElem?_cons_succ]
  repeat (first
    | (refine Order.reads_off (by rfl) ?_
       simp only [Act.put, List.setIfInBounds_toArray, List.set_cons_zero, List.set_cons_succ])
    | (apply Order.reads_on
       · rfl
       · intro x hx
         first
           | (unfold Same at hx
              subst hx
              go_simp; rfl)
       simp only [Act.put, List.setIfInBounds_toArray]))
  refine Order.reads_end ?_
  apply Order.lastE (i := 6)
  · rfl
  · decide +kernel
  · decide
  · rfl
  unfold Oper.wp
  go_simp
  obtain ⟨p1, p2, p3, p4, p5⟩ := nodup_node.1 H.out.2.2.1
  have hsz := H.out.2.2.2.1
  simp only [T.size] at hsz
  refine (HI.out X.drew (HX.out.2.2.2.drew) p4 (by omega)).mono ?_
  rintro e y ⟨nb, rfl, hnb, ht, hy⟩
  have hd0 : Turns (fun _ => False) X X.drew := Turns.of_below (Below.refl _ _).drew
  have n1 := (HX.out.2.1.turn hd0 id).turn ht p2
  have o1 := (HX.out.2.2.1.turn hd0 fun _ _ h => h).turn ht fun q hq hc => p5 q hq hc
  have hxs : X.drew.heap.size = X.heap.size := rfl
  have hws := HX.out.1.size
  rw [hxs] at hnb
  have hfresh : ∀ q ∈ (T.bin b l k a r).blks, q < w.heap.size := H.out.2.2.2.2.1
  have hnn : ∀ q ∈ (T.bin b l k a r).blks, q ≠ nb := fun q hq e => by have := hfresh q hq; omega
  have hbi : b ∉ (T.ins nb q x r).blks := fun h => (T.mem_ins h).elim (hnn b List.mem_cons_self) p2
  have t2 := turn1 y b 4 (.pointer (loc (T.ins nb q x r)))
  have hTop : Top (y.setCell ⟨b, 4, none⟩ (.pointer (loc (T.ins nb q x r)))) b l k a (T.ins nb q x r) := by
    refine ⟨⟨_, n1.setr _⟩, o1.turn t2 (mem_ne p1), hy.turn t2 (mem_ne hbi), nodup_node.2 ⟨p1, hbi, p3, T.nodup_ins q x p4 ?_, ?_⟩, by rw [T.size_ins]; omega⟩
    · exact fun h => hnn nb (List.mem_cons_of_mem _ (List.mem_append_right _ h)) rfl
    · exact fun q hq hc => (T.mem_ins hc).elim (hnn q (List.mem_cons_of_mem _ (List.mem_append_left _ hq))) fun h => p5 q hq h
  have HT := Lib.hid (And.intro hTop (And.intro ht (And.intro hd0 (And.intro t2 (And.intro hnb (And.intro hws hnn))))))
  obtain ⟨e0, e1, e2, e3, e4⟩ := n1.cells
  have ef := n1.free 4
  clear hTop ht hd0 t2 hnb hws hnn hbi hfresh n1 o1 hxs hsz hy p1 p2 p3 p4 p5
  apply Order.freeC (i := 7)
  · rfl
  · kernel_rfl
  · decide
  · decide +kernel
  · decide +kernel
  · exact fun _ _ _ _ _ h => Order.noPanic_put h
  · rfl
  · intro x
    go_simp
    rfl
  apply Order.freeC (i := 8)
  · rfl
  · kernel_rfl
  · decide
  · decide +kernel
  · decide +kernel
  · exact fun _ _ _ _ _ h => Order.noPanic_put h
  · rfl
  · intro x
    go_simp
    rfl
  apply Order.lastE (i := 9)
  · rfl
  · decide +kernel
  · decide
  · rfl
  unfold Oper.wp
  go_simp
  refine Order.doneE (by decide +kernel) ?_ _
  refine NoPanic.normal ?_
  clear c0 c1 c2 c3 c4 g0 g1 e0 e1 e2 e3 e4 ef
  generalize y.setCell ⟨b, 4, none⟩ (.pointer (loc (T.ins nb q x r))) = Z at *
  go_wp2_with fail
  refine (balanced_any _ HT.out.1).mono ?_
  rintro e z ⟨rfl, ht3, hz⟩
  go_wp2_with fail
  go_ret
  obtain ⟨hTop, ht, hd0, t2, hnb, hws, hnn⟩ := HT.out
  have hi : T.ins nb q x (.bin b l k a r) = (.bal b l k a (T.ins nb q x r)) := by rw [T.ins, if_neg (by rw [← HD.out]; omega)]
  refine ⟨nb, ?_, by omega, ?_, ?_⟩
  · rw [hi]; rfl
  rotate_left
  · rw [hi]; exact hz
  have t1 : Turns (fun i => i ∈ (T.bin b l k a r).blks) w X := Turns.of_below HX.out.1
  replace t1 := t1.trans hd0 fun _ _ h => h.elim
  replace t1 := t1.trans ht fun i _ h => List.mem_cons_of_mem _ (List.mem_append_right _ h)
  replace t1 := t1.trans t2 fun i _ h => by rw [h]; exact List.mem_cons_self
  refine t1.trans ht3 fun i hi h => ?_
  rcases List.mem_cons.1 h with rfl | h
  · exact List.mem_cons_self
  · rcases List.mem_append.1 h with h | h
    · exact List.mem_cons_of_mem _ (List.mem_append_left _ h)
    · rcases T.mem_ins h with rfl | h
      · omega
      · exact List.mem_cons_of_mem _ (List.mem_append_right _ h)

theorem with_any (q : ByteArray) (x : Int) : ∀ t : T, Adds q x t
  | .nil => adds_nil q x
  | .bin b l k a r => by
    by_cases hc : cmp q k < 0
    · exact adds_left hc (with_any q x l)
    · exact adds_right hc (with_any q x r)
end Hg
end Go.Proofs.Ytldacdpejncbnaa
