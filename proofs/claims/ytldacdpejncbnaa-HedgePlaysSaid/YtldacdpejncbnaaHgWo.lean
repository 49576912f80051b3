/-
  Layer 15: a tree without an entry.
-/
import Derived.Test.YtldacdpejncbnaaHgWith
namespace Go.Proofs.Ytldacdpejncbnaa
open Go.RowKit
namespace Hg
open Knot (Turns NewRow)

theorem T.mem_del {q : ByteArray} {t : T} {k : Nat} (h : k ∈ (T.del q t).blks) : k ∈ t.blks := by
  obtain ⟨D, hD⟩ := T.blks_del q t
  exact hD.mem_iff.1 (List.mem_append_right _ h)
theorem T.nodup_del (q : ByteArray) {t : T} (h : t.blks.Nodup) : (T.del q t).blks.Nodup := by
  obtain ⟨D, hD⟩ := T.blks_del q t
  exact (List.nodup_append.1 (hD.nodup_iff.2 h)).2.1
theorem T.size_del (q : ByteArray) (t : T) : (T.del q t).size ≤ t.size := by
  obtain ⟨D, hD⟩ := T.blks_del q t
  have := hD.length_eq
  rw [List.length_append, T.blks_len, T.blks_len] at this
  omega
/-- What without is to do. -/
def Drops (t : T) : Prop := ∀ q w, IsT w t → t.blks.Nodup → Rises t.ents → (T.find q t).isSome = true → t.size ≤ 50000 →
  Calls Try.prog 28 #[.pointer (loc t), .string q] w fun e y => e = .returned (.pointer (loc (T.del q t))) ∧ Turns (fun k => k ∈ t.blks) w y ∧ IsT y (T.del q t)
theorem Nd.entry {w : World} {b : Nat} {k : ByteArray} {a c : Int} {l r : Option Addr} (h : Nd w b k a c l r) (k' : ByteArray) (a' : Int) : Nd ((w.setCell ⟨b, 0, none⟩ (.string k')).setCell ⟨b, 1, none⟩ (.int .i64 a')) b k' a' c l r :=
  Lib.heap_setCell_same (i := 1) (Lib.heap_setCell_same (i := 0) h (.string k')) (.int .i64 a')
theorem set2_turns (w : World) (b : Nat) (u v : Value) : Turns (fun q => q = b) w ((w.setCell ⟨b, 0, none⟩ u).setCell ⟨b, 1, none⟩ v) :=
  ((Turns.refl (fun q => q = b) w).setCell (p := ⟨b, 0, none⟩) rfl u).setCell (p := ⟨b, 1, none⟩) rfl v
set_option maxHeartbeats 4000000 in
set_option maxRecDepth 100000 in
theorem drops_left {k : ByteArray} {a : Int} {b : Nat} {l r : T} (ih : Drops l) (q : ByteArray) (hc : cmp q k < 0) (w : World) (h : IsT w (.bin b l k a r)) (ha : (T.bin b l k a r).blks.Nodup) (hr : Rises (T.bin b l k a r).ents) (hf : (T.find q (.bin b l k a r)).isSome = true) (hs : (T.bin b l k a r).size ≤ 50000) :
    Calls Try.prog 28 #[.pointer (loc (.bin b l k a r)), .string q] w fun e y => e = .returned (.pointer (loc (T.del q (.bin b l k a r)))) ∧ Turns (fun k' => k' ∈ (T.bin b l k a r).blks) w y ∧ IsT y (T.del q (.bin b l k a r)) := by
  have HC := Lib.hid (fun W => Gl.flip (compare_any q k W))
  obtain ⟨d, hd⟩ : ∃ d, d = cmp q k := ⟨_, rfl⟩
  rw [← hd] at HC hc
  rw [T.find, if_pos (by omega)] at hf
  obtain ⟨p1, p2, p3, p4, p5⟩ := nodup_node.1 ha
  obtain ⟨c0, c1, c2, c3, c4⟩ := h.1.cells
  have hsz := hs
  simp only [T.size] at hsz
  have HI := Lib.hid (ih q w h.2.1 p3 hr.fst hf (by omega))
  have H := Lib.hid (And.intro h (And.intro hsz (And.intro p1 (And.intro p2 (And.intro p3 (And.intro p4 p5))))))
  have HD := Lib.hid hd
  have hdel : T.del q (.bin b l k a r) = (.bal b (T.del q l) k a r) := by rw [T.del, if_pos (by rw [← HD.out]; omega)]
  rw [hdel, show loc (.bin b l k a r) = some ⟨b, 0, none⟩ from rfl]
  clear h ha hr hf hs hsz hd p1 p2 p3 p4 p5 hdel
  go_enter Try.func28, Try.ntmps28
  go_wp2_with (go_at_call 36; refine (HC.out _).mono ?_; rintro e x ⟨rfl, rfl⟩)
  refine HI.out.mono ?_
  rintro e y ⟨rfl, ht, hy⟩
  obtain ⟨h, hsz, p1, p2, p3, p4, p5⟩ := H.out
  have n1 := h.1.turn ht p1
  have o1 := h.2.2.turn ht fun q hq hc => p5 q hc hq
  have hbi : b ∉ (T.del q l).blks := fun h => p1 (T.mem_del h)
  have t2 := turn1 y b 3 (.pointer (loc (T.del q l)))
  have hz := T.size_del q l
  have hTop : Top (y.setCell ⟨b, 3, none⟩ (.pointer (loc (T.del q l)))) b (T.del q l) k a r :=
    ⟨⟨_, n1.setl _⟩, hy.turn t2 (mem_ne hbi), o1.turn t2 (mem_ne p2), nodup_node.2 ⟨hbi, p2, T.nodup_del q p3, p4, fun q hq hc => p5 q (T.mem_del hq) hc⟩, by omega⟩
  have HT := Lib.hid (And.intro hTop (And.intro ht t2))
  obtain ⟨e0, e1, e2, e3, e4⟩ := n1.cells
  have ef := n1.free 3
  clear hTop ht t2 hbi n1 o1 hy p1 p2 p3 p4 p5 h hsz hz
  go_wp2_with fail
  clear c0 c1 c2 c3 c4 e0 e1 e2 e3 e4 ef
  generalize y.setCell ⟨b, 3, none⟩ (.pointer (loc (T.del q l))) = Z at *
  refine (balanced_any _ HT.out.1).mono ?_
  rintro e z ⟨rfl, ht3, hz⟩
  go_wp2_with fail
  go_ret
  obtain ⟨hTop, ht, t2⟩ := HT.out
  refine ⟨rfl, ?_, hz⟩
  have t1 : Turns (fun i => i ∈ (T.bin b l k a r).blks) w y := ht.mono fun i _ h => List.mem_cons_of_mem _ (List.mem_append_left _ h)
  replace t1 := t1.trans t2 fun i _ h => by rw [h]; exact List.mem_cons_self
  refine t1.trans ht3 fun i hi h => ?_
  rcases List.mem_cons.1 h with rfl | h
  · exact List.mem_cons_self
  · rcases List.mem_append.1 h with h | h
    · exact List.mem_cons_of_mem _ (List.mem_append_left _ (T.mem_del h))
    · exact List.mem_cons_of_mem _ (List.mem_append_right _ h)
set_option maxHeartbeats 4000000 in
set_option maxRecDepth 100000 in
theorem drops_right {k : ByteArray} {a : Int} {b : Nat} {l r : T} (ih : Drops r) (q : ByteArray) (hc : 0 < cmp q k) (w : World) (h : IsT w (.bin b l k a r)) (ha : (T.bin b l k a r).blks.Nodup) (hr : Rises (T.bin b l k a r).ents) (hf : (T.find q (.bin b l k a r)).isSome = true) (hs : (T.bin b l k a r).size ≤ 50000) :
    Calls Try.prog 28 #[.pointer (loc (.bin b l k a r)), .string q] w fun e y => e = .returned (.pointer (loc (T.del q (.bin b l k a r)))) ∧ Turns (fun k' => k' ∈ (T.bin b l k a r).blks) w y ∧ IsT y (T.del q (.bin b l k a r)) := by
  have HC := Lib.hid (fun W => Gl.flip (compare_any q k W))
  obtain ⟨d, hd⟩ : ∃ d, d = cmp q k := ⟨_, rfl⟩
  rw [← hd] at HC hc
  rw [T.find, if_neg (by omega), if_pos (by omega)] at hf
  obtain ⟨p1, p2, p3, p4, p5⟩ := nodup_node.1 ha
  obtain ⟨c0, c1, c2, c3, c4⟩ := h.1.cells
  have hsz := hs
  simp only [T.size] at hsz
  have HI := Lib.hid (ih q w h.2.2 p4 hr.snd hf (by omega))
  have H := Lib.hid (And.intro h (And.intro hsz (And.intro p1 (And.intro p2 (And.intro p3 (And.intro p4 p5))))))
  have HD := Lib.hid hd
  have hdel : T.del q (.bin b l k a r) = (.bal b l k a (T.del q r)) := by rw [T.del, if_neg (by rw [← HD.out]; omega), if_pos (by rw [← HD.out]; omega)]
  rw [hdel, show loc (.bin b l k a r) = some ⟨b, 0, none⟩ from rfl]
  clear h ha hr hf hs hsz hd p1 p2 p3 p4 p5 hdel
  go_enter Try.func28, Try.ntmps28
  go_wp2_with (go_at_call 36; refine (HC.out _).mono ?_; rintro e x ⟨rfl, rfl⟩)
  refine HI.out.mono ?_
  rintro e y ⟨rfl, ht, hy⟩
  obtain ⟨h, hsz, p1, p2, p3, p4, p5⟩ := H.out
  have n1 := h.1.turn ht p2
  have o1 := h.2.1.turn ht fun q hq hc => p5 q hq hc
  have hbi : b ∉ (T.del q r).blks := fun h => p2 (T.mem_del h)
  have t2 := turn1 y b 4 (.pointer (loc (T.del q r)))
  have hz := T.size_del q r
  have hTop : Top (y.setCell ⟨b, 4, none⟩ (.pointer (loc (T.del q r)))) b l k a (T.del q r) :=
    ⟨⟨_, n1.setr _⟩, o1.turn t2 (mem_ne p1), hy.turn t2 (mem_ne hbi), nodup_node.2 ⟨p1, hbi, p3, T.nodup_del q p4, fun q hq hc => p5 q hq (T.mem_del hc)⟩, by omega⟩
  have HT := Lib.hid (And.intro hTop (And.intro ht t2))
  obtain ⟨e0, e1, e2, e3, e4⟩ := n1.cells
  have ef := n1.free 4
  clear hTop ht t2 hbi n1 o1 hy p1 p2 p3 p4 p5 h hsz hz
  go_wp2_with fail
  clear c0 c1 c2 c3 c4 e0 e1 e2 e3 e4 ef
  generalize y.setCell ⟨b, 4, none⟩ (.pointer (loc (T.del q r))) = Z at *
  refine (balanced_any _ HT.out.1).mono ?_
  rintro e z ⟨rfl, ht3, hz⟩
  go_wp2_with fail
  go_ret
  obtain ⟨hTop, ht, t2⟩ := HT.out
  refine ⟨rfl, ?_, hz⟩
  have t1 : Turns (fun i => i ∈ (T.bin b l k a r).blks) w y := ht.mono fun i _ h => List.mem_cons_of_mem _ (List.mem_append_right _ h)
  replace t1 := t1.trans t2 fun i _ h => by rw [h]; exact List.mem_cons_self
  refine t1.trans ht3 fun i hi h => ?_
  rcases List.mem_cons.1 h with rfl | h
  · exact List.mem_cons_self
  · rcases List.mem_append.1 h with h | h
    · exact List.mem_cons_of_mem _ (List.mem_append_left _ h)
    · exact List.mem_cons_of_mem _ (List.mem_append_right _ (T.mem_del h))
set_option maxHeartbeats 4000000 in
set_option maxRecDepth 100000 in
theorem drops_mid {k : ByteArray} {a : Int} {b : Nat} {l r : T} (ih : Drops r) (q : ByteArray) (hc : ¬ cmp q k < 0) (hc2 : ¬ 0 < cmp q k) (w : World) (h : IsT w (.bin b l k a r)) (ha : (T.bin b l k a r).blks.Nodup) (hr : Rises (T.bin b l k a r).ents) (hs : (T.bin b l k a r).size ≤ 50000) :
    Calls Try.prog 28 #[.pointer (loc (.bin b l k a r)), .string q] w fun e y => e = .returned (.pointer (loc (T.del q (.bin b l k a r)))) ∧ Turns (fun k' => k' ∈ (T.bin b l k a r).blks) w y ∧ IsT y (T.del q (.bin b l k a r)) := by
  have HC := Lib.hid (fun W => Gl.flip (compare_any q k W))
  obtain ⟨d, hd⟩ : ∃ d, d = cmp q k := ⟨_, rfl⟩
  have hl0 : l = .nil → T.del q (.bin b l k a r) = r := fun e => by rw [e]; exact T.del_left hc hc2
  have hr0 : l ≠ .nil → r = .nil → T.del q (.bin b l k a r) = l := fun hn e => by rw [e]; exact T.del_right hc hc2 hn
  have hm0 : l ≠ .nil → r ≠ .nil → T.del q (.bin b l k a r) = T.bal b l r.first.1 r.first.2 (T.del r.first.1 r) := T.del_mid hc hc2
  rw [← hd] at HC hc hc2
  obtain ⟨p1, p2, p3, p4, p5⟩ := nodup_node.1 ha
  obtain ⟨c0, c1, c2, c3, c4⟩ := h.1.cells
  have hsz := hs
  simp only [T.size] at hsz
  have hrs := hr.snd
  have H := Lib.hid (And.intro h (And.intro hsz (And.intro p1 (And.intro p2 (And.intro p3 (And.intro p4 p5))))))
  have hp := Turns.refl (fun k' => k' ∈ (T.bin b l k a r).blks) w
  rw [show loc (.bin b l k a r) = some ⟨b, 0, none⟩ from rfl]
  clear ha hr hs hsz hd p1 p2 p3 p4 p5
  cases hl : l with
  | nil =>
    have hd := hl0 hl
    rw [hl] at hd c3
    have HR := Lib.hid (And.intro hd (And.intro h.2.2 hp))
    rw [hl] at HR
    rw [show loc T.nil = none from rfl] at c3
    clear hl0 hr0 hm0 hd h hrs hp hl H
    go_enter Try.func28, Try.ntmps28
    go_wp2_with (go_at_call 36; refine (HC.out _).mono ?_; rintro e x ⟨rfl, rfl⟩)
    go_ret
    rw [HR.out.1]
    exact ⟨rfl, HR.out.2.2, HR.out.2.1⟩
  | bin b2 l2 k2 a2 r2 =>
    have hln : l ≠ .nil := by rw [hl]; simp
    have c3' := c3
    rw [hl, show loc (T.bin b2 l2 k2 a2 r2) = some ⟨b2, 0, none⟩ from rfl] at c3'
    have hl' := Lib.hid hl
    rw [← hl]
    clear hl
    clear c3
    cases hrr : r with
    | nil =>
      have hd := hr0 hln hrr
      rw [hrr] at hd c4
      have HR := Lib.hid (And.intro hd (And.intro h.2.1 hp))
      rw [hrr] at HR
      rw [show loc T.nil = none from rfl] at c4
      clear hl0 hr0 hm0 hd h hrs hp H hrr
      go_enter Try.func28, Try.ntmps28
      go_wp2_with (go_at_call 36; refine (HC.out _).mono ?_; rintro e x ⟨rfl, rfl⟩)
      go_ret
      rw [HR.out.1, hl'.out]
      exact ⟨rfl, by rw [← hl'.out]; exact HR.out.2.2, by rw [← hl'.out]; exact HR.out.2.1⟩
    | bin b3 l3 k3 a3 r3 =>
      have hrn : r ≠ .nil := by rw [hrr]; simp
      have c4' := c4
      rw [hrr, show loc (T.bin b3 l3 k3 a3 r3) = some ⟨b3, 0, none⟩ from rfl] at c4'
      have hr' := Lib.hid hrr
      have hr2 : some ⟨b3, 0, none⟩ = loc r := by rw [hrr]; rfl
      rw [← hrr]
      clear hrr
      clear c4
      rw [hm0 hln hrn]
      have hfd : (T.find r.first.1 r).isSome = true := by
        have h1 := T.find_get r.first.1 hrs
        rw [T.first_get hrn hrs] at h1
        cases hq : T.find r.first.1 r with
        | none => rw [hq] at h1; cases h1
        | some p => rfl
      have HL := Lib.hid (leftmost_any r w h.2.2 hrn)
      rw [← hr2] at HL
      obtain ⟨fk, hfk⟩ : ∃ s, s = r.first.1 := ⟨_, rfl⟩
      obtain ⟨fa, hfa⟩ : ∃ s, s = r.first.2 := ⟨_, rfl⟩
      rw [← hfk] at hfd HL
      rw [← hfa] at HL
      have HF := Lib.hid (And.intro hfk (And.intro hfa (And.intro hfd (And.intro hrs hr2))))
      have HI := Lib.hid ih
      clear hl0 hr0 hm0 hfd hfk hfa hrs hp h ih hr2 hln hrn
      rw [← HF.out.1, ← HF.out.2.1]
      go_enter Try.func28, Try.ntmps28
      go_wp2_with (go_at_call 36; refine (HC.out _).mono ?_; rintro e x ⟨rfl, rfl⟩)
      refine HL.out.mono ?_
      rintro e x ⟨rfl, hb⟩
      obtain ⟨h, hsz, p1, p2, p3, p4, p5⟩ := H.out
      have n1 := (h.below hb).1
      have tb : Turns (fun q => q = b) w x := Turns.of_below hb
      obtain ⟨X, hX⟩ : ∃ X, X = (x.setCell ⟨b, 0, none⟩ (.string fk)).setCell ⟨b, 1, none⟩ (.int .i64 fa) := ⟨_, rfl⟩
      have t1 := set2_turns x b (.string fk) (.int .i64 fa)
      have n2 := n1.entry fk fa
      rw [← hX] at t1 n2
      have hTw := tb.trans t1 fun _ _ h => h
      have hl2 := h.2.1.turn hTw (mem_ne p1)
      have hr2 := h.2.2.turn hTw (mem_ne p2)
      obtain ⟨e0, e1, e2, e3, e4⟩ := n1.cells
      have ef0 := n1.free 0
      have ef1 := n1.free 1
      have HX := Lib.hid (And.intro n2 (And.intro hl2 (And.intro hr2 hTw)))
      have HY := Lib.hid hX
      clear h hsz p1 p2 p3 p4 p5 n1 tb t1 n2 hTw hl2 hr2 hX hb c0 c1 c2 c3' c4' HL HC
      go_wp2_with fail
      rw [← HY.out]
      clear e0 e1 e2 e3 e4 ef0 ef1 HY
      obtain ⟨g0, g1, g2, g3, g4⟩ := HX.out.1.cells
      refine Order.beginE (Same X.drew) [0, 10, 11, 12, 13] (by kernel_rfl) ?_
      apply Order.freeC (i := 0)
      · rfl
      · kernel_rfl
      · decide
      · decide +kernel
      · decide +kernel
      · exact fun _ _ _ _ _ h => Order.noPanic_put h
      · rfl
      · intro x
        go_simp
        rfl
      refine Order.readsC_any (idx := [1, 2, 3, 4, 5, 6, 7, 8, 9]) (by kernel_rfl) (Same.refl _) (fun _ _ _ _ _ h => Order.noPanic_put h) 4 _ _ (by decide +kernel) ?_
      simp only [Order.pick, List.getElem?_toArray, List.getElem?_cons_zero, List.getElem?_cons_succ]
      repeat (first
        | (refine Order.reads_off (by rfl) ?_
           simp only [Act.put, List.setIfInBounds_toArray, List.set_cons_zero, List.set_cons_succ])
        | (apply Order.reads_on
           · rfl
           · intro x hx
             first
               | (unfold Same at hx
                  subst hx
                  go_simp; rfl)
           simp only [Act.put, List.setIfInBounds_toArray]))
      refine Order.reads_end ?_
      apply Order.lastE (i := 10)
      · rfl
      · decide +kernel
      · decide
      · rfl
      unfold Oper.wp
      go_simp
      obtain ⟨h, hsz, p1, p2, p3, p4, p5⟩ := H.out
      refine (HI.out fk X.drew (HX.out.2.2.1.drew) p4 HF.out.2.2.2.1 HF.out.2.2.1 (by omega)).mono ?_
      rintro e y ⟨rfl, ht, hy⟩
      have hd0 : Turns (fun _ => False) X X.drew := Turns.of_below (Below.refl _ _).drew
      have n1 := (HX.out.1.turn hd0 id).turn ht p2
      have o1 := (HX.out.2.1.turn hd0 fun _ _ h => h).turn ht fun q hq hc => p5 q hq hc
      have hbi : b ∉ (T.del fk r).blks := fun h => p2 (T.mem_del h)
      have t2 := turn1 y b 4 (.pointer (loc (T.del fk r)))
      have hz := T.size_del fk r
      have hTop : Top (y.setCell ⟨b, 4, none⟩ (.pointer (loc (T.del fk r)))) b l fk fa (T.del fk r) :=
        ⟨⟨_, n1.setr _⟩, o1.turn t2 (mem_ne p1), hy.turn t2 (mem_ne hbi), nodup_node.2 ⟨p1, hbi, p3, T.nodup_del fk p4, fun q hq hc => p5 q hq (T.mem_del hc)⟩, by omega⟩
      have hTT := ((HX.out.2.2.2.mono (G := fun i => i ∈ (T.bin b l k a r).blks) fun i _ h => by rw [h]; exact List.mem_cons_self).trans hd0 (fun _ _ h => h.elim)).trans ht (fun i _ h => List.mem_cons_of_mem _ (List.mem_append_right _ h))
      replace hTT := hTT.trans t2 fun i _ h => by rw [h]; exact List.mem_cons_self
      have HT := Lib.hid (And.intro hTop hTT)
      obtain ⟨e0, e1, e2, e3, e4⟩ := n1.cells
      have ef := n1.free 4
      clear hTop ht t2 hbi n1 o1 hy p1 p2 p3 p4 p5 h hsz hz hd0 hTT
      apply Order.freeC (i := 11)
      · rfl
      · kernel_rfl
      · decide
      · decide +kernel
      · decide +kernel
      · exact fun _ _ _ _ _ h => Order.noPanic_put h
      · rfl
      · intro x
        go_simp
        rfl
      apply Order.freeC (i := 12)
      · rfl
      · kernel_rfl
      · decide
      · decide +kernel
      · decide +kernel
      · exact fun _ _ _ _ _ h => Order.noPanic_put h
      · rfl
      · intro x
        go_simp
        rfl
      apply Order.lastE (i := 13)
      · rfl
      · decide +kernel
      · decide
      · rfl
      unfold Oper.wp
      go_simp
      refine Order.doneE (by decide +kernel) ?_ _
      refine NoPanic.normal ?_
      clear g0 g1 g2 g3 g4 e0 e1 e2 e3 e4 ef
      generalize y.setCell ⟨b, 4, none⟩ (.pointer (loc (T.del fk r))) = Z at *
      go_wp2_with fail
      refine (balanced_any _ HT.out.1).mono ?_
      rintro e z ⟨rfl, ht3, hz⟩
      go_wp2_with fail
      go_ret
      refine ⟨rfl, HT.out.2.trans ht3 fun i hi h => ?_, hz⟩
      rcases List.mem_cons.1 h with rfl | h
      · exact List.mem_cons_self
      · rcases List.mem_append.1 h with h | h
        · exact List.mem_cons_of_mem _ (List.mem_append_left _ h)
        · exact List.mem_cons_of_mem _ (List.mem_append_right _ (T.mem_del h))
theorem without_any : ∀ t : T, Drops t
  | .nil => fun q w _ _ _ h => by cases h
  | .bin b l k a r => fun q w h ha hr hf hs => by
    by_cases hc : cmp q k < 0
    · exact drops_left (without_any l) q hc w h ha hr hf hs
    · by_cases hc2 : 0 < cmp q k
      · exact drops_right (without_any r) q hc2 w h ha hr hf hs
      · exact drops_mid (without_any r) q hc hc2 w h ha hr hs
end Hg
end Go.Proofs.Ytldacdpejncbnaa
