/-
  Layer 10 (cask): takeName, takeAllow, takeNode, takeRel, takeType.
-/
import Derived.Test.YtopncohhagebbaaDoorCkList
import Derived.Test.YtopncohhagebbaaDoorGrSameB
import Derived.Test.YtopncohhagebbaaDoorMgMem
namespace Go.Proofs.YtopncohhagebbaaDoor
open Go.RowKit Go.Sort
namespace Ck
open Knot (Turns NewRow Inn At iptr)
open Tr (Nd none0 node4 own_slice)
open Who (bs bs_list bs_size bs_self eq_of_list)
open Gr (Al Rl Ty Elt RowS allowE alV relV tyV tAl tRl tTy set3 set3_own set6 set6_own set_own)

theorem text16 (s : St) : (textP 16 s).1.size ≤ 16 := by
  cases h : Knot.takeT s.1 16 with
  | none => rw [textP_none h]; decide
  | some q =>
    obtain ⟨t, r⟩ := q
    rw [textP_some h]
    have := (takeT_of h).2
    simp only [bs_size]
    omega
theorem textP_le (most : Int) (s : St) : (textP most s).2.1.length ≤ s.1.length := by
  cases h : Knot.takeT s.1 most with
  | none => rw [textP_none h]; exact Nat.zero_le _
  | some q =>
    obtain ⟨t, r⟩ := q
    rw [textP_some h]
    have := (takeT_of h).1
    simp only
    rw [this, List.length_append]
    omega
theorem markP_le (s : St) : (markP s).2.1.length ≤ s.1.length := by
  cases h : Knot.takeM s.1 with
  | none => rw [markP_none h]; exact Nat.zero_le _
  | some q =>
    obtain ⟨t, r⟩ := q
    rw [markP_some h]
    simp only
    rw [takeM_of h, List.length_append]
    omega
theorem listP_le {α : Type} {p : St → α × St} {t : Tk α} (h : Lifts p t) {f : α → List UInt8} (hs : Sound t f) (most : Int) (s : St) : (listP most p s).2.1.length ≤ s.1.length := by
  have hl := list_lifts h most
  cases ht : listT most t s.1 with
  | none => rw [hl.no s ht]; exact Nat.zero_le _
  | some q =>
    obtain ⟨x, r⟩ := q
    rw [hl.yes s x r ht]
    simp only
    rw [list_sound hs most _ _ _ ht, List.length_append]
    omega

set_option maxHeartbeats 1000000 in
set_option maxRecDepth 100000 in
theorem name_p (I : Nat) (s : St) (w : World) (h : Inn w I (bs s.1) s.2) (hz : s.1.length ≤ 1000000000000) :
    Calls Tryd.prog 25 #[iptr I] w (Took I w (.string (textP 16 s).1) (textP 16 s).2) := by
  have HT := Lib.hid (text_p I s 16 w h hz (by omega))
  clear h
  go_enter Tryd.func25, Tryd.ntmps25
  go_wp2_with fail
  refine HT.out.mono ?_
  rintro e x ⟨rfl, h1, h2⟩
  go_wp2_with fail
  go_ret
  exact ⟨rfl, h1, h2⟩

/-- What a taking stands on whose result lies in a box. -/
structure Hb (I : Nat) (x : World) (s : St) (cs : Array Value) (T : TypeId) (w : World) : Prop where
  inn : Inn w I (bs s.1) s.2
  res : w.heap[x.heap.size]? = some (.cells cs T (0, 0))
  turns : Turns (At I) x w
  low : I < x.heap.size
section
variable {I : Nat} {x : World} {s s' : St} {cs : Array Value} {T : TypeId} {w y : World}
theorem Hb.lt (h : Hb I x s cs T w) : x.heap.size < w.heap.size := (Array.getElem?_eq_some_iff.1 h.res).1
theorem Hb.turn (h : Hb I x s cs T w) (hi : Inn y I (bs s'.1) s'.2) (ht : Turns (At I) w y) : Hb I x s' cs T y :=
  ⟨hi, (ht.block _ h.lt (fun e => by have := h.low; have e' : x.heap.size = I := e; omega)).trans h.res, at_trans h.turns ht, h.low⟩
theorem Hb.start (h : Inn x I (bs s.1) s.2) (cs : Array Value) (T : TypeId) : Hb I x s cs T (x.alloc (.cells cs T)) :=
  ⟨h.below ((Below.refl _ _).alloc (Nat.le_refl _) _), heap_alloc_new x _, Turns.of_below ((Below.refl _ _).alloc (Nat.le_refl _) _), h.lt⟩
theorem Hb.fin (h : Hb I x s cs T w) (ht : Turns (fun g => g = x.heap.size) w y) : Inn y I (bs s.1) s.2 ∧ Turns (At I) x y :=
  ⟨h.inn.keep ht fun e => by have := h.low; omega, ⟨ht.os.trans h.turns.os, ht.tape.trans h.turns.tape, ht.output.trans h.turns.output, Nat.le_trans h.turns.size ht.size,
    fun k hk hn => (ht.block k (Nat.lt_of_lt_of_le hk h.turns.size) (by omega)).trans (h.turns.block k hk hn)⟩⟩
theorem free_at (h : w.heap[x.heap.size]? = some (.cells cs T (0, 0))) (i : Nat) : w.frozen? ⟨x.heap.size, i, none⟩ = false := Lib.frozen_of_heap h i
end

set_option maxHeartbeats 4000000 in
set_option maxRecDepth 100000 in
theorem allow_any (I : Nat) (s : St) (x : World) (h : Inn x I (bs s.1) s.2) (hz : s.1.length ≤ 1000000000000) :
    Calls Tryd.prog 42 #[iptr I] x (Out allowE I (allowP s) x) := by
  have hA := Hb.start h #[.string ⟨#[]⟩, .string ⟨#[]⟩, .bool false] tAl
  have HC1 := Lib.hid (name_p I s _ hA.inn hz)
  have HA := Lib.hid hA
  have HZ := Lib.hid (Nat.le_trans (textP_le 16 s) hz)
  rw [show allowP s = (⟨(textP 16 s).1, (textP 16 (textP 16 s).2).1, (markP (textP 16 (textP 16 s).2).2).1⟩, (markP (textP 16 (textP 16 s).2).2).2) from rfl]
  generalize textP 16 s = q at *
  obtain ⟨a, s1⟩ := q
  have HZ2 := Lib.hid (Nat.le_trans (textP_le 16 s1) HZ.out)
  clear h hA hz
  go_enter Tryd.func42, Tryd.ntmps42
  go_wp2_with fail
  generalize x.alloc (.cells #[.string ⟨#[]⟩, .string ⟨#[]⟩, .bool false] 59) = w1 at *
  refine HC1.out.mono ?_
  rintro e w2 ⟨rfl, h1, h2⟩
  have HA2 := Lib.hid (HA.out.turn h1 h2)
  have HC2 := Lib.hid (name_p I s1 _ h1 HZ.out)
  clear h1 h2 HC1 HA
  generalize textP 16 s1 = q at *
  obtain ⟨b, s2⟩ := q
  go_wp2_with fail
  refine HC2.out.mono ?_
  rintro e w3 ⟨rfl, h1, h2⟩
  have HA3 := Lib.hid (HA2.out.turn h1 h2)
  have HC3 := Lib.hid (mark_p I s2 _ h1)
  clear h1 h2 HC2 HA2
  generalize markP s2 = q at *
  obtain ⟨m, s3⟩ := q
  go_wp2_with fail
  refine HC3.out.mono ?_
  rintro e w4 ⟨rfl, h1, h2⟩
  have hA := HA3.out.turn h1 h2
  obtain ⟨d0, d1, d2⟩ := box3 hA.res
  have f0 := free_at hA.res 0
  have f1 := free_at hA.res 1
  have f2 := free_at hA.res 2
  have hset := set3_own w4 x.heap.size (.string a) (.string b) (.bool m)
  have hres2 : (set3 w4 x.heap.size (.string a) (.string b) (.bool m)).heap[x.heap.size]? = some (.cells #[.string a, .string b, .bool m] tAl (0, 0)) := Lib.heap_setCell_same (i := 2) (Lib.heap_setCell_same (i := 1) (Lib.heap_setCell_same (i := 0) hA.res (.string a)) (.string b)) (.bool m)
  have HF := Lib.hid (And.intro (hA.fin hset) (box3 hres2))
  clear hA HA3 HC3 h1 h2 hset hres2
  go_wp2_with fail
  obtain ⟨g0, g1, g2⟩ := HF.out.2
  unfold set3 at g0 g1 g2
  exact bodyPost_ret (v := alV ⟨a, b, m⟩) (by simp [results, Tryd.results42, go_sem, g0, g1, g2]) rfl ⟨_, rfl, rfl, HF.out.1⟩
theorem enter_allow : ∀ args W, (callFunc 42 args).run Tryd.prog W = .ok (.enter 42 args) W := fun args W => by kernel_rfl
theorem allow_part (I N : Nat) (W : World) (hN : N ≤ 90000000) : Part allowE I N W 42 #[] allowP := ⟨enter_allow, fun s x h hl _ => allow_any I s x h (by omega), allow_short⟩

/-! ### nodes -/
abbrev vptr (k : Nat) : Value := .pointer (some ⟨k, 0, none⟩)
/-- A box of one number. -/
def BoxI (k : Nat) (z : Int) (x : World) : Prop := x.heap[k]? = some (.cells #[.int .i64 z] 3 (0, 0))
theorem BoxI.lt {k : Nat} {z : Int} {x : World} (h : BoxI k z x) : k < x.heap.size := (Array.getElem?_eq_some_iff.1 h).1
theorem BoxI.cell {k : Nat} {z : Int} {x : World} (h : BoxI k z x) : x.cell? ⟨k, 0, none⟩ = some (.int .i64 z) := by rw [Lib.cell_of_heap h]; rfl
theorem BoxI.turn {k : Nat} {z : Int} {x y : World} {F : Nat → Prop} (h : BoxI k z x) (ht : Turns F x y) (hF : ¬ F k) : BoxI k z y := (ht.block k h.lt hF).trans h
set_option maxHeartbeats 1000000 in
set_option maxRecDepth 100000 in
theorem takeNode_any (d : Nat) (w : World) (hd : d ≤ 8) :
    Calls Tryd.prog 43 #[.int .i64 d] w fun e x => e = .returned (fnv 56 #[vptr (w.heap.size + 1), vptr w.heap.size]) ∧ BoxI w.heap.size d x ∧ BoxI (w.heap.size + 1) (if d = 1 then 0 else 24) x ∧ Below w.heap.size w x := by
  have hs1 : (w.alloc (.cells #[.int .i64 (d : Int)] 3)).heap.size = w.heap.size + 1 := by simp
  by_cases h1 : d = 1
  · subst h1
    obtain ⟨q1, q2, q3, q4⟩ := Gr.two_boxes w #[.int .i64 1] #[.int .i64 24] 3 3
    have HQ := Lib.hid (Gr.two_boxes w #[.int .i64 1] #[.int .i64 0] 3 3)
    have f0 := Lib.frozen_of_heap q3 0
    have c0 : ((w.alloc (.cells #[.int .i64 1] 3)).alloc (.cells #[.int .i64 24] 3)).cell? ⟨w.heap.size, 0, none⟩ = some (.int .i64 1) := BoxI.cell q2
    clear q1 q2 q3 q4
    go_enter Tryd.func43, Tryd.ntmps43
    go_wp2_with fail
    go_ret
    obtain ⟨q1, q2, q3, q4⟩ := HQ.out
    exact ⟨rfl, q2, q3, q1⟩
  · have hne : ((d : Int) == 1) = false := by simp; omega
    obtain ⟨q1, q2, q3, q4⟩ := Gr.two_boxes w #[.int .i64 (d : Int)] #[.int .i64 24] 3 3
    have HQ := Lib.hid (And.intro q1 (And.intro q2 (And.intro q3 q4)))
    have c0 := BoxI.cell (z := (d : Int)) q2
    rw [if_neg h1]
    clear q1 q2 q3 q4
    go_enter Tryd.func43, Tryd.ntmps43
    go_wp2_with fail
    go_ret
    obtain ⟨q1, q2, q3, q4⟩ := HQ.out
    exact ⟨rfl, q2, q3, q1⟩
theorem enter_node : ∀ args W, (callFunc 56 args).run Tryd.prog W = .ok (.enter 56 args) W := fun args W => by kernel_rfl
set_option maxHeartbeats 8000000 in
set_option maxRecDepth 100000 in
theorem node_run (I N d : Nat) (hN : N ≤ 90000000) (hd : d < 8) (hsub : d ≠ 0 → ∀ (W : World) (K D : Nat), I ≠ K → I ≠ D → BoxI K (if d = 1 then 0 else 24) W → BoxI D d W → Part nodeU I N W 56 #[vptr K, vptr D] (nodeP d))
    (W : World) (K D : Nat) (hIK : I ≠ K) (hID : I ≠ D) (hBK : BoxI K (kidsP d) W) (hBD : BoxI D ((d : Int) + 1) W) (s : St) (x : World) (h : Inn x I (bs s.1) s.2) (hl : s.1.length ≤ N) (hW : Turns (At I) W x) :
    Calls Tryd.prog 56 #[iptr I, vptr K, vptr D] x (Out nodeU I (nodeP (d + 1) s) x) := by
  have hA := Hb.start h #[.int .i64 0, .string ⟨#[]⟩, .string ⟨#[]⟩, .slice none 0 0] 52
  have HA := Lib.hid hA
  have HX := Lib.hid (And.intro hl (And.intro hN hd))
  have HWK := Lib.hid (show BoxI K (kidsP d) (x.alloc (.cells #[.int .i64 0, .string ⟨#[]⟩, .string ⟨#[]⟩, .slice none 0 0] 52)) ∧ BoxI D ((d : Int) + 1) (x.alloc (.cells #[.int .i64 0, .string ⟨#[]⟩, .string ⟨#[]⟩, .slice none 0 0] 52)) from
    ⟨(hBK.turn hW fun e => hIK e.symm).turn (F := fun _ => False) (Turns.of_below ((Below.refl _ _).alloc (Nat.le_refl _) _)) id, (hBD.turn hW fun e => hID e.symm).turn (F := fun _ => False) (Turns.of_below ((Below.refl _ _).alloc (Nat.le_refl _) _)) id⟩)
  have HSub := Lib.hid hsub
  have HIK := Lib.hid (And.intro hIK hID)
  rw [show nodeP (d + 1) s = (.mk (numP 6 s).1 (textP 16 (numP 6 s).2).1 (textP 16 (textP 16 (numP 6 s).2).2).1 (listP (kidsP d) (nodeP d) (textP 16 (textP 16 (numP 6 s).2).2).2).1, (listP (kidsP d) (nodeP d) (textP 16 (textP 16 (numP 6 s).2).2).2).2) from rfl]
  have HL1 := Lib.hid (Nat.le_trans (numP_le 6 s) hl)
  clear h hl hN hd hA hsub hIK hID
  go_enter Tryd.func56, Tryd.ntmps56
  go_upto_region 1 with fail
  generalize x.alloc (.cells #[.int .i64 0, .string ⟨#[]⟩, .string ⟨#[]⟩, .slice none 0 0] 52) = w1 at *
  have HC1 := Lib.hid (number_p I s 6 w1.drew (HA.out.inn.below (Below.refl _ _).drew) (by have := HX.out; omega))
  have hKl := hBK.lt
  have hDl := hBD.lt
  have HKD := Lib.hid (show K < x.heap.size ∧ D < x.heap.size from ⟨Nat.lt_of_lt_of_le hKl hW.size, Nat.lt_of_lt_of_le hDl hW.size⟩)
  clear hKl hDl hBK hBD hW
  have HBx := Lib.hid (show ∀ y, Turns (fun k => k = I ∨ x.heap.size ≤ k) w1.drew y → y.cell? ⟨K, 0, none⟩ = some (.int .i64 (kidsP d)) ∧ y.cell? ⟨D, 0, none⟩ = some (.int .i64 ((d : Int) + 1)) from fun y hy =>
    have ht := Turns.after_below (Below.refl w1.heap.size w1).drew hy
    ⟨(HWK.out.1.turn ht fun e => e.elim (fun e => HIK.out.1 e.symm) fun e => by have := HKD.out; omega).cell, (HWK.out.2.turn ht fun e => e.elim (fun e => HIK.out.2 e.symm) fun e => by have := HKD.out; omega).cell⟩)
  generalize numP 6 s = q at *
  obtain ⟨k, s1⟩ := q
  have HL2 := Lib.hid (Nat.le_trans (textP_le 16 s1) HL1.out)
  have hwr : IntKind.i64.wrap (d : Int) = (d : Int) := by rw [IntKind.wrap_i64] <;> have := HX.out.2.2 <;> omega
  refine Order.region_begin (S := Turns (fun k => k = I ∨ x.heap.size ≤ k) w1.drew) (by kernel_rfl) ?_
  refine Order.reads_any (idx := [0, 2, 4, 6, 7, 8, 9]) (by kernel_rfl) (Turns.refl _ _) (fun _ _ _ _ _ h => Order.noPanic_put h) 7 _ _ (by decide +kernel) ?_
  simp only [Order.pick, List.getElem?_toArray, List.getElem?_cons_zero, List.getElem?_cons_succ]
  repeat (first
    | (refine Order.reads_off (by rfl) ?_
       simp only [Act.put, List.setIfInBounds_toArray, List.set_cons_zero, List.set_cons_succ])
    | (apply Order.reads_on
       · rfl
       · intro x hx
         first
           | (go_simp; rfl)
           | (obtain ⟨c0, d0⟩ := HBx.out x hx
              go_simp; rfl)
       simp only [Act.put, List.setIfInBounds_toArray, List.set_cons_zero, List.set_cons_succ]))
  refine Order.reads_end ?_
  apply Order.acts_any (R := (Turns (fun k => k = I ∨ x.heap.size ≤ k))) (fun h k => h.trans k fun _ _ h => h) (i := 1)
  · rfl
  · decide +kernel
  · rfl
  unfold Oper.wp
  go_simp
  refine Calls.mono HC1.out ?_
  rintro e w2 ⟨rfl, h1, h2⟩
  refine ⟨h2.mono fun _ _ e => .inl e, ?_⟩
  have HA2 := Lib.hid (HA.out.turn h1 (Turns.after_below (Below.refl w1.heap.size w1).drew h2))
  have HC2 := Lib.hid (name_p I s1 _ h1 (by have := HX.out; have := HL1.out; simp only at this; omega))
  clear h1 h2 HC1 HA
  have ha16 := text16 s1
  generalize textP 16 s1 = q at *
  obtain ⟨a, s2⟩ := q
  have HS1 := Lib.hid ha16
  have HL3 := Lib.hid (Nat.le_trans (textP_le 16 s2) HL2.out)
  clear ha16
  apply Order.acts_any (R := (Turns (fun k => k = I ∨ x.heap.size ≤ k))) (fun h k => h.trans k fun _ _ h => h) (i := 3)
  · rfl
  · decide +kernel
  · rfl
  unfold Oper.wp
  go_simp
  refine Calls.mono HC2.out ?_
  rintro e w3 ⟨rfl, h1, h2⟩
  refine ⟨h2.mono fun _ _ e => .inl e, ?_⟩
  have HA3 := Lib.hid (HA2.out.turn h1 h2)
  have HC3 := Lib.hid (name_p I s2 _ h1 (by have := HX.out; have := HL2.out; simp only at this; omega))
  clear h1 h2 HC2 HA2
  have hb16 := text16 s2
  generalize textP 16 s2 = q at *
  obtain ⟨b, s3⟩ := q
  have HS2 := Lib.hid hb16
  clear hb16
  apply Order.acts_any (R := (Turns (fun k => k = I ∨ x.heap.size ≤ k))) (fun h k => h.trans k fun _ _ h => h) (i := 5)
  · rfl
  · decide +kernel
  · rfl
  unfold Oper.wp
  go_simp
  refine Calls.mono HC3.out ?_
  rintro e w4 ⟨rfl, h1, h2⟩
  refine ⟨h2.mono fun _ _ e => .inl e, ?_⟩
  have HA4 := Lib.hid (HA3.out.turn h1 h2)
  have HC4 := Lib.hid (takeNode_any d w4 (by have := HX.out; omega))
  clear h1 h2 HC3 HA3
  apply Order.acts_any (R := (Turns (fun k => k = I ∨ x.heap.size ≤ k))) (fun h k => h.trans k fun _ _ h => h) (i := 10)
  · rfl
  · decide +kernel
  · rfl
  unfold Oper.wp
  go_simp
  refine Calls.mono HC4.out ?_
  rintro e w5 ⟨rfl, hbD, hbK, hb5⟩
  refine ⟨Turns.of_below hb5, ?_⟩
  have HA5 := Lib.hid (HA4.out.turn (HA4.out.inn.below hb5) (Turns.of_below hb5))
  have HC5 := Lib.hid (takeN_any (N := N) (W := w5) (f := 56) (cap0 := #[vptr (w4.heap.size + 1), vptr w4.heap.size]) (p := nodeP d) (kidsP d) (s := s3) enter_node (fun hne => HSub.out (fun e => by
      subst e
      apply hne
      rcases num_cases (kidsP 0) s3 with ⟨-, e⟩ | ⟨n, k, r, -, -, -, h3, -, e, -⟩
      · rw [e]
      · rw [e]
        rw [kidsP, if_pos rfl] at h3
        simp only
        omega) w5 _ _ (by have := HA4.out.inn.lt; omega) (by have := HA4.out.inn.lt; omega) hbK hbD) HA5.out.inn (by have := HL3.out; simp only at this; exact this) HX.out.2.1 (Turns.refl _ _))
  clear hbD hbK hb5 HC4 HA4
  apply Order.acts_any (R := (Turns (fun k => k = I ∨ x.heap.size ≤ k))) (fun h k => h.trans k fun _ _ h => h) (i := 11)
  · rfl
  · decide +kernel
  · rfl
  unfold Oper.wp
  go_simp
  refine Calls.mono HC5.out ?_
  rintro e w6 ⟨v, rfl, hv, h1, h2⟩
  refine ⟨h2.mono fun _ _ e => .inl e, ?_⟩
  have hA := HA5.out.turn h1 h2
  have HRow := Lib.hid (hv.mono (B' := x.heap.size + 1) (by have := HA5.out.lt; omega))
  obtain ⟨ao, cap, rfl⟩ := hv.slice
  clear h1 h2 hv HC5 HA5
  generalize listP (kidsP d) (nodeP d) s3 = q at *
  obtain ⟨l, s4⟩ := q
  simp only at hA HRow ⊢
  obtain ⟨d0, d1, d2, d3⟩ := box4 hA.res
  have f0 := free_at hA.res 0
  have f1 := free_at hA.res 1
  have f2 := free_at hA.res 2
  have f3 := free_at hA.res 3
  have hset : Turns (fun g => g = x.heap.size) w6 ((((w6.setCell ⟨x.heap.size, 0, none⟩ (.int .i64 k)).setCell ⟨x.heap.size, 1, none⟩ (.string a)).setCell ⟨x.heap.size, 2, none⟩ (.string b)).setCell ⟨x.heap.size, 3, none⟩ (.slice ao l.length cap)) :=
    (((set_own w6 x.heap.size 0 _).setCell (p := ⟨x.heap.size, 1, none⟩) rfl _).setCell (p := ⟨x.heap.size, 2, none⟩) rfl _).setCell (p := ⟨x.heap.size, 3, none⟩) rfl _
  have hres2 := Lib.heap_setCell_same (i := 3) (Lib.heap_setCell_same (i := 2) (Lib.heap_setCell_same (i := 1) (Lib.heap_setCell_same (i := 0) hA.res (.int .i64 k)) (.string a)) (.string b)) (.slice ao l.length cap)
  have HSet := Lib.hid (hset.mono (G := fun k => k = I ∨ x.heap.size ≤ k) fun g _ e => .inr (by have e' : g = x.heap.size := e; omega))
  have HF := Lib.hid (And.intro (node_is (k := k) HRow.out (show a.size ≤ maxLen ∧ b.size ≤ maxLen from ⟨Nat.le_trans HS1.out (by decide), Nat.le_trans HS2.out (by decide)⟩) hset) (And.intro (hA.fin hset) (box4 hres2)))
  clear hA hset hres2 HRow
  refine Order.reads_any (idx := [12]) (by kernel_rfl) (Turns.refl _ _) (fun _ _ _ _ _ h => Order.noPanic_put h) 1 _ _ (by decide +kernel) ?_
  simp only [Order.pick, List.getElem?_toArray, List.getElem?_cons_zero, List.getElem?_cons_succ]
  repeat (first
    | (refine Order.reads_off (by rfl) ?_
       simp only [Act.put, List.setIfInBounds_toArray, List.set_cons_zero, List.set_cons_succ])
    | (apply Order.reads_on
       · rfl
       · intro x hx
         first
           | (go_simp; rfl)
           | (fail
              go_simp; rfl)
       simp only [Act.put, List.setIfInBounds_toArray, List.set_cons_zero, List.set_cons_succ]))
  refine Order.reads_end ?_
  apply Order.acts_any (R := (Turns (fun k => k = I ∨ x.heap.size ≤ k))) (fun h k => h.trans k fun _ _ h => h) (i := 13)
  · rfl
  · decide +kernel
  · rfl
  unfold Oper.wp
  go_simp
  refine ⟨HSet.out, ?_⟩
  clear d0 d1 d2 d3 f0 f1 f2 f3
  refine wpAnyH_done (by decide +kernel) ?_ _
  refine NoPanic.normal ?_
  obtain ⟨g0, g1, g2, g3⟩ := HF.out.2.2
  go_wp2_with fail
  exact bodyPost_ret (v := node4 k a b (.slice ao l.length cap)) (by simp [results, Tryd.results56, go_sem, g0, g1, g2, g3]) rfl ⟨_, rfl, HF.out.1, HF.out.2.1⟩
theorem node_part (I N : Nat) (hN : N ≤ 90000000) : ∀ (d : Nat), d < 8 → ∀ (W : World) (K D : Nat), I ≠ K → I ≠ D → BoxI K (kidsP d) W → BoxI D ((d : Int) + 1) W → Part nodeU I N W 56 #[vptr K, vptr D] (nodeP (d + 1))
  | 0, hd, W, K, D, h1, h2, h3, h4 => ⟨enter_node, fun s x h hl hW => node_run I N 0 hN hd (fun e => absurd rfl e) W K D h1 h2 h3 h4 s x h hl hW, node_short 0⟩
  | d + 1, hd, W, K, D, h1, h2, h3, h4 => ⟨enter_node, fun s x h hl hW => node_run I N (d + 1) hN hd (fun _ W' K' D' g1 g2 g3 g4 => node_part I N hN d (by omega) W' K' D' g1 g2 (by
      rw [kidsP]
      by_cases h0 : d = 0
      · rw [if_pos h0]; rwa [if_pos (by omega)] at g3
      · rw [if_neg h0]; rwa [if_neg (by omega)] at g3) (by simpa using g4)) W K D h1 h2 h3 h4 s x h hl hW, node_short (d + 1)⟩

/-! ### relations and types -/
set_option maxHeartbeats 4000000 in
set_option maxRecDepth 100000 in
theorem rel_any (I N : Nat) (hN : N ≤ 90000000) (s : St) (x : World) (h : Inn x I (bs s.1) s.2) (hz : s.1.length ≤ N) :
    Calls Tryd.prog 27 #[iptr I] x (Out relU I (relP s) x) := by
  have hA := Hb.start h #[.string ⟨#[]⟩, .slice none 0 0, .int .i64 0, .string ⟨#[]⟩, .string ⟨#[]⟩, .slice none 0 0] tRl
  have HC1 := Lib.hid (name_p I s _ hA.inn (by omega))
  have HA := Lib.hid hA
  have HN := Lib.hid hN
  have HZ := Lib.hid (Nat.le_trans (textP_le 16 s) hz)
  rw [show relP s = (⟨(textP 16 s).1, (listP top allowP (textP 16 s).2).1, (nodeP 8 (listP top allowP (textP 16 s).2).2).1⟩, (nodeP 8 (listP top allowP (textP 16 s).2).2).2) from rfl]
  generalize textP 16 s = q at *
  obtain ⟨a, s1⟩ := q
  simp only at HZ ⊢
  have HZ2 := Lib.hid (Nat.le_trans (listP_le allow_lifts allow_sound top s1) HZ.out)
  clear h hA hz hN
  go_enter Tryd.func27, Tryd.ntmps27
  go_wp2_with fail
  generalize x.alloc (.cells #[.string ⟨#[]⟩, .slice none 0 0, .int .i64 0, .string ⟨#[]⟩, .string ⟨#[]⟩, .slice none 0 0] 54) = w1 at *
  refine HC1.out.mono ?_
  rintro e w2 ⟨rfl, h1, h2⟩
  have HA2 := Lib.hid (HA.out.turn h1 h2)
  have HC2 := Lib.hid (takeA_any (N := N) (W := w2) (f := 42) (cap0 := #[]) (p := allowP) top (s := s1) enter_allow (fun _ => allow_part I N w2 HN.out) h1 HZ.out HN.out (Turns.refl _ _))
  clear h1 h2 HC1 HA
  generalize listP top allowP s1 = q at *
  obtain ⟨l, s2⟩ := q
  simp only at HZ2 ⊢
  go_wp2_with fail
  refine HC2.out.mono ?_
  rintro e w3 ⟨v, rfl, hv, h1, h2⟩
  have HRow := Lib.hid (hv.mono (C := x.heap.size + 1) (by have := HA2.out.lt; omega))
  obtain ⟨ao, cap, rfl⟩ := hv.slice
  have HA3 := Lib.hid (HA2.out.turn h1 h2)
  have HC3 := Lib.hid (takeNode_any 8 w3 (by omega))
  clear h1 h2 hv HC2 HA2
  simp only at HA3 HRow
  go_wp2_with fail
  refine HC3.out.mono ?_
  rintro e w4 ⟨rfl, hbD, hbK, hb4⟩
  have hA4 := HA3.out.turn (HA3.out.inn.below hb4) (Turns.of_below hb4)
  have hp := node_part I N HN.out 7 (by omega) w4 (w3.heap.size + 1) w3.heap.size (by have := HA3.out.inn.lt; omega) (by have := HA3.out.inn.lt; omega) hbK (by simpa using hbD)
  have hent := hp.enter
  have HC4 := Lib.hid (hp.run s2 w4 hA4.inn HZ2.out (Turns.refl _ _))
  have HRow2 := Lib.hid (HRow.out.below hb4)
  have HA4 := Lib.hid hA4
  clear hbD hbK hb4 hA4 hp HC3 HA3 HRow
  generalize nodeP 8 s2 = q at *
  obtain ⟨n, s3⟩ := q
  go_wp2_with fail
  refine HC4.out.mono ?_
  rintro e w5 ⟨u, rfl, hu, h1, h2⟩
  have hA := HA4.out.turn h1 h2
  have hrow := HRow2.out.turn h2 fun g hg _ e => by have := HA4.out.low; have e' : g = I := e; omega
  have hnode : NodeU (fun g => x.heap.size + 1 ≤ g) w5 n u := Elt.mono (E := nodeU) hu fun g hg _ => by have := HA4.out.lt; omega
  obtain ⟨no, nc, rfl⟩ := hnode.open
  obtain ⟨d0, d1, d2, d3, d4, d5⟩ := box6 hA.res
  have f0 := free_at hA.res 0
  have f1 := free_at hA.res 1
  have f2 := free_at hA.res 2
  have f3 := free_at hA.res 3
  have f4 := free_at hA.res 4
  have f5 := free_at hA.res 5
  have hset := set6_own w5 x.heap.size (.string a) (.slice ao l.length cap) (.int .i64 n.kind) (.string n.ta) (.string n.tb) (.slice no n.kids.length nc)
  have hres2 : (set6 w5 x.heap.size (.string a) (.slice ao l.length cap) (.int .i64 n.kind) (.string n.ta) (.string n.tb) (.slice no n.kids.length nc)).heap[x.heap.size]? = some (.cells #[.string a, .slice ao l.length cap, .int .i64 n.kind, .string n.ta, .string n.tb, .slice no n.kids.length nc] tRl (0, 0)) :=
    Lib.heap_setCell_same (i := 5) (Lib.heap_setCell_same (i := 4) (Lib.heap_setCell_same (i := 3) (Lib.heap_setCell_same (i := 2) (Lib.heap_setCell_same (i := 1) (Lib.heap_setCell_same (i := 0) hA.res _) _) _) _) _) _
  have HF := Lib.hid (And.intro (rel_is (A := a) hrow hnode hset) (And.intro (hA.fin hset) (box6 hres2)))
  clear hA hrow hnode hset hres2 h1 h2 hu HA4 HC4 HRow2
  go_wp2_with fail
  obtain ⟨g0, g1, g2, g3, g4, g5⟩ := HF.out.2.2
  unfold set6 at g0 g1 g2 g3 g4 g5
  exact bodyPost_ret (v := relV ⟨a, l, n⟩ (.slice ao l.length cap) (.slice no n.kids.length nc)) (by simp [results, Tryd.results27, go_sem, g0, g1, g2, g3, g4, g5]) rfl ⟨_, rfl, HF.out.1, HF.out.2.1⟩
theorem enter_rel : ∀ args W, (callFunc 27 args).run Tryd.prog W = .ok (.enter 27 args) W := fun args W => by kernel_rfl
theorem rel_part (I N : Nat) (W : World) (hN : N ≤ 90000000) : Part relU I N W 27 #[] relP := ⟨enter_rel, fun s x h hl _ => rel_any I N hN s x h hl, rel_short⟩

set_option maxHeartbeats 4000000 in
set_option maxRecDepth 100000 in
theorem type_any (I N : Nat) (hN : N ≤ 90000000) (s : St) (x : World) (h : Inn x I (bs s.1) s.2) (hz : s.1.length ≤ N) :
    Calls Tryd.prog 11 #[iptr I] x (Out tyU I (typeP s) x) := by
  have hA := Hb.start h #[.string ⟨#[]⟩, .slice none 0 0] tTy
  have HC1 := Lib.hid (name_p I s _ hA.inn (by omega))
  have HA := Lib.hid hA
  have HN := Lib.hid hN
  have HZ := Lib.hid (Nat.le_trans (textP_le 16 s) hz)
  rw [show typeP s = (⟨(textP 16 s).1, (listP top relP (textP 16 s).2).1⟩, (listP top relP (textP 16 s).2).2) from rfl]
  generalize textP 16 s = q at *
  obtain ⟨a, s1⟩ := q
  simp only at HZ ⊢
  clear h hA hz hN
  go_enter Tryd.func11, Tryd.ntmps11
  go_wp2_with fail
  generalize x.alloc (.cells #[.string ⟨#[]⟩, .slice none 0 0] 38) = w1 at *
  refine HC1.out.mono ?_
  rintro e w2 ⟨rfl, h1, h2⟩
  have HA2 := Lib.hid (HA.out.turn h1 h2)
  have HC2 := Lib.hid (takeR_any (N := N) (W := w2) (f := 27) (cap0 := #[]) (p := relP) top (s := s1) enter_rel (fun _ => rel_part I N w2 HN.out) h1 HZ.out HN.out (Turns.refl _ _))
  clear h1 h2 HC1 HA
  generalize listP top relP s1 = q at *
  obtain ⟨l, s2⟩ := q
  go_wp2_with fail
  refine HC2.out.mono ?_
  rintro e w3 ⟨v, rfl, hv, h1, h2⟩
  have hrow := hv.mono (C := x.heap.size + 1) (by have := HA2.out.lt; omega)
  obtain ⟨ao, cap, rfl⟩ := hv.slice
  have hA := HA2.out.turn h1 h2
  simp only at hrow
  obtain ⟨d0, d1⟩ := box2 hA.res
  have f0 := free_at hA.res 0
  have f1 := free_at hA.res 1
  have hset : Turns (fun g => g = x.heap.size) w3 ((w3.setCell ⟨x.heap.size, 0, none⟩ (.string a)).setCell ⟨x.heap.size, 1, none⟩ (.slice ao l.length cap)) := (set_own w3 x.heap.size 0 _).setCell (p := ⟨x.heap.size, 1, none⟩) rfl _
  have hres2 := Lib.heap_setCell_same (i := 1) (Lib.heap_setCell_same (i := 0) hA.res (.string a)) (.slice ao l.length cap)
  have HF := Lib.hid (And.intro (ty_is (A := a) hrow hset) (And.intro (hA.fin hset) (box2 hres2)))
  clear hA hrow hset hres2 h1 h2 hv HA2 HC2
  go_wp2_with fail
  obtain ⟨g0, g1⟩ := HF.out.2.2
  exact bodyPost_ret (v := tyV ⟨a, l⟩ (.slice ao l.length cap)) (by simp [results, Tryd.results11, go_sem, g0, g1]) rfl ⟨_, rfl, HF.out.1, HF.out.2.1⟩
theorem enter_type : ∀ args W, (callFunc 11 args).run Tryd.prog W = .ok (.enter 11 args) W := fun args W => by kernel_rfl
theorem type_part (I N : Nat) (W : World) (hN : N ≤ 90000000) : Part tyU I N W 11 #[] typeP := ⟨enter_type, fun s x h hl _ => type_any I N hN s x h hl, type_short⟩
end Ck
end Go.Proofs.YtopncohhagebbaaDoor
