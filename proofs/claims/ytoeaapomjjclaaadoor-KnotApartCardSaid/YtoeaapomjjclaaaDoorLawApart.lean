/-
  The statement KnotApart at every two texts and every pair of them. What is asked: the library's table of powers of ten.
-/
import Derived.Test.YtoeaapomjjclaaaDoorKnAwake
import Derived.Test.YtoeaapomjjclaaaDoorOrder
namespace Go.Proofs.YtoeaapomjjclaaaDoor
open Go.RowKit Go.Sort
namespace Knot
open Who (bs bs_list bs_size bs_self eq_of_list)

theorem Kn.mono {B B2 K : Nat} {w : World} {v : Value} {l : List UInt8} (h : Kn B w K v l) (hB : B2 ≤ B) : Kn B2 w K v l := by
  refine ⟨Nat.le_trans hB h.1, h.2.1, h.2.2.1, ?_⟩
  rcases h.2.2.2 with hn | ⟨g, cap, cur, hv, hb, r⟩
  · exact .inl hn
  · exact .inr ⟨g, cap, cur, hv, Nat.le_trans hB hb, r⟩

/-- Two knots that share nothing. -/
structure Two (W : World) (Ka : Nat) (va : Value) (la : List UInt8) (Kb : Nat) (vb : Value) (lb : List UInt8) (x : World) : Prop where
  ka : Kn W.heap.size x Ka va la
  kb : Kn W.heap.size x Kb vb lb
  apart : ∀ k, Foot Kb vb k → ¬ Foot Ka va k
  below : Below W.heap.size W x
section
variable {W x y : World} {Ka Kb : Nat} {va vb v' : Value} {la lb l' : List UInt8}
theorem Two.left (h : Two W Ka va la Kb vb lb x) (hk : Kn W.heap.size y Ka v' l') (hs : KStep Ka va v' x y) : Two W Ka v' l' Kb vb lb y :=
  ⟨hk, h.kb.keep hs.turns h.apart, apart_step h.kb hs h.apart, h.below.trans (hs.below h.ka)⟩
theorem Two.right (h : Two W Ka va la Kb vb lb x) (hk : Kn W.heap.size y Kb v' l') (hs : KStep Kb vb v' x y) : Two W Ka va la Kb v' l' y := by
  have hd : ∀ k, Foot Ka va k → ¬ Foot Kb vb k := fun k h1 h2 => h.apart k h2 h1
  exact ⟨h.ka.keep hs.turns hd, hk, fun k h1 h2 => apart_step h.ka hs hd k h2 h1, h.below.trans (hs.below h.kb)⟩
theorem Two.on (h : Two W Ka va la Kb vb lb x) (hb : Below x.heap.size x y) : Two W Ka va la Kb vb lb y :=
  ⟨h.ka.keep_below hb, h.kb.keep_below hb, h.apart, h.below.trans (hb.mono h.below.size)⟩
end
theorem own_below {w x : World} {b n : Nat} {e : TypeId} {v : Value} {xs : List Value} (h : w.ownsRow b e 1 v n xs) (hb : Below w.heap.size w x) : x.ownsRow b e 1 v n xs := own_turn h (Turns.of_below (F := fun _ => False) hb) fun _ _ h => h
/-- A box of two texts. -/
theorem box2 (w : World) (T : TypeId) (a b : Value) : (w.alloc (.cells #[a, b] T)).cell? ⟨w.heap.size, 0, none⟩ = some a ∧ (w.alloc (.cells #[a, b] T)).cell? ⟨w.heap.size, 1, none⟩ = some b ∧ w.heap.size < (w.alloc (.cells #[a, b] T)).heap.size := by
  refine ⟨?_, ?_, by simp⟩
  · rw [World.cell?_alloc_mark]; rfl
  · rw [World.cell?_alloc_mark]; rfl
theorem tab_boxed {w : World} {o : Obj} (h : Tab w.heap.size w) : Tab (w.alloc o).heap.size (w.alloc o) := fun x hx => h x (((Below.refl _ _).alloc (Nat.le_refl _) _).trans (hx.mono (by simp)))
theorem tab_on {w x : World} (h : Tab w.heap.size w) (hb : Below w.heap.size w x) : Tab w.heap.size x := fun y hy => h y (hb.trans hy)
theorem tab_up {w x : World} (h : Tab w.heap.size w) (hb : Below w.heap.size w x) : Tab x.heap.size x := fun y hy => h y (hb.trans (hy.mono hb.size))
theorem textB_small {s : ByteArray} (h : s.size ≤ 1000) : (textB s.data.toList).length ≤ 1011 := by
  have := textB_len (s := s.data.toList) (by rw [← Lib.size_eq]; omega)
  rw [← Lib.size_eq] at this
  omega

set_option maxHeartbeats 4000000 in
set_option maxRecDepth 100000 in
theorem apart_long (s t p q : ByteArray) (w : World) (htab : Tab w.heap.size w) (hs : 1000 < s.size ∨ 1000 < t.size ∨ 1000 < p.size ∨ 1000 < q.size) :
    Calls Tryd.prog 6 #[.string s, .string t, .agg #[.string p, .string q]] w fun e x => e = .returned (.bool true) ∧ Below w.heap.size w x := by
  obtain ⟨c0, c1, z0⟩ := box2 w 58 (.string p) (.string q)
  have b0 : Below w.heap.size w (w.alloc (.cells #[.string p, .string q] 58)) := (Below.refl _ _).alloc (Nat.le_refl _) _
  have HT := Lib.hid (And.intro (tab_boxed (o := .cells #[.string p, .string q] 58) htab) b0)
  have HA := Lib.hid (awake_any _ HT.out.1)
  clear htab b0
  have hs' : (1000 < s.size) ∨ (s.size ≤ 1000 ∧ 1000 < t.size) ∨ (s.size ≤ 1000 ∧ t.size ≤ 1000 ∧ 1000 < p.size) ∨ (s.size ≤ 1000 ∧ t.size ≤ 1000 ∧ p.size ≤ 1000 ∧ 1000 < q.size) := by omega
  clear hs
  rcases hs' with h | h | h | h
  all_goals
    go_enter Tryd.func6, Tryd.ntmps6
    go_wp2_with fail
    refine HA.out.mono ?_
    rintro e w1 ⟨rfl, b1⟩
    have k0 := (b1.cell (p := ⟨w.heap.size, 0, none⟩) z0).trans c0
    have k1 := (b1.cell (p := ⟨w.heap.size, 1, none⟩) z0).trans c1
    have HA2 := Lib.hid (awake_any w1 (tab_up HT.out.1 b1))
    have B1 := Lib.hid (HT.out.2.trans (b1.mono (Nat.le_of_lt z0)))
    clear b1
    go_wp2_with fail
    refine HA2.out.mono ?_
    rintro e w2 ⟨rfl, b2⟩
    go_wp2
    go_ret
    exact ⟨rfl, B1.out.trans (b2.mono B1.out.size)⟩

set_option maxHeartbeats 4000000 in
set_option maxRecDepth 100000 in
theorem apart_short (s t p q : ByteArray) (w : World) (htab : Tab w.heap.size w) (hs : s.size ≤ 1000) (ht : t.size ≤ 1000) (hp : p.size ≤ 1000) (hq : q.size ≤ 1000) :
    Calls Tryd.prog 6 #[.string s, .string t, .agg #[.string p, .string q]] w fun e x => e = .returned (.bool true) ∧ Below w.heap.size w x := by
  obtain ⟨c0, c1, z0⟩ := box2 w 58 (.string p) (.string q)
  have b0 : Below w.heap.size w (w.alloc (.cells #[.string p, .string q] 58)) := (Below.refl _ _).alloc (Nat.le_refl _) _
  obtain ⟨W, hW⟩ : ∃ W, W = w.alloc (.cells #[.string p, .string q] 58) := ⟨_, rfl⟩
  have htb := tab_boxed (o := .cells #[.string p, .string q] 58) htab
  rw [← hW] at c0 c1 z0 b0 htb
  have ls := textB_small hs
  have lt := textB_small ht
  have lp := textB_small hp
  have lq := textB_small hq
  have HX := Lib.hid (And.intro c0 (And.intro c1 z0))
  have HT := Lib.hid (And.intro htb b0)
  have HA := Lib.hid (awake_any W htb)
  clear htab b0 htb
  go_enter Tryd.func6, Tryd.ntmps6
  go_wp2_with fail
  rw [← hW]
  clear hW
  refine HA.out.mono ?_
  rintro e w1 ⟨rfl, b1⟩
  have k0 := (b1.cell (p := ⟨w.heap.size, 0, none⟩) z0).trans c0
  have k1 := (b1.cell (p := ⟨w.heap.size, 1, none⟩) z0).trans c1
  have B1 := Lib.hid b1
  have HN1 := Lib.hid (new_any w1)
  clear b1 HA c0 c1
  go_wp2_with fail
  refine HN1.out.mono ?_
  rintro e w2 ⟨Ka, rfl, -, ka2, b2⟩
  have HN2 := Lib.hid (new_any w2)
  have K2 := Lib.hid (And.intro ka2 b2)
  clear ka2 b2 HN1 k0 k1
  go_wp2_with fail
  refine HN2.out.mono ?_
  rintro e w3 ⟨Kb, rfl, hKb, kb3, b3⟩
  have S3 : Two W Ka (.slice none 0 0) [] Kb (.slice none 0 0) [] w3 := by
    have z1 := B1.out.size
    have z2 := K2.out.2.size
    have z3 := K2.out.1.lt
    refine ⟨(K2.out.1.keep_below b3).mono z1, kb3.mono (by omega), ?_, (B1.out.trans (K2.out.2.mono z1)).trans (b3.mono (by omega))⟩
    rintro k (h | h) (h2 | h2)
    · omega
    · cases h2
    · cases h
    · cases h
  have HS3 := Lib.hid S3
  have H4 := Lib.hid (text_any W.heap.size Ka _ _ s w3 S3.ka (by simp) (by omega) (tab_on HT.out.1 S3.below))
  clear S3 kb3 b3 hKb HN2 K2 B1
  go_wp2_with fail
  refine H4.out.mono ?_
  rintro e w4 ⟨rfl, va4, ka4, sa4⟩
  have S4 := HS3.out.left ka4 sa4
  have HS4 := Lib.hid S4
  have H5 := Lib.hid (text_any W.heap.size Kb _ _ t w4 S4.kb (by simp) (by omega) (tab_on HT.out.1 S4.below))
  clear S4 ka4 sa4 H4 HS3
  go_wp2_with fail
  refine H5.out.mono ?_
  rintro e w5 ⟨rfl, vb5, kb5, sb5⟩
  have S5 := HS4.out.right kb5 sb5
  have k0 := (S5.below.cell (p := ⟨w.heap.size, 0, none⟩) HX.out.2.2).trans HX.out.1
  have k1 := (S5.below.cell (p := ⟨w.heap.size, 1, none⟩) HX.out.2.2).trans HX.out.2.1
  have HS5 := Lib.hid S5
  have H6 := Lib.hid (text_any W.heap.size Ka _ _ p w5 S5.ka (by simp; omega) (by omega) (tab_on HT.out.1 S5.below))
  clear S5 kb5 sb5 H5 HS4
  go_wp2_with fail
  refine H6.out.mono ?_
  rintro e w6 ⟨rfl, va6, ka6, sa6⟩
  have S6 := HS5.out.left ka6 sa6
  clear k0 k1
  have k0 := (S6.below.cell (p := ⟨w.heap.size, 0, none⟩) HX.out.2.2).trans HX.out.1
  have k1 := (S6.below.cell (p := ⟨w.heap.size, 1, none⟩) HX.out.2.2).trans HX.out.2.1
  have HS6 := Lib.hid S6
  have H7 := Lib.hid (text_any W.heap.size Kb _ _ q w6 S6.kb (by simp; omega) (by omega) (tab_on HT.out.1 S6.below))
  clear S6 ka6 sa6 H6 HS5
  go_wp2_with fail
  refine H7.out.mono ?_
  rintro e w7 ⟨rfl, vb7, kb7, sb7⟩
  have S7 := HS6.out.right kb7 sb7
  clear k0 k1
  have k0 := (S7.below.cell (p := ⟨w.heap.size, 0, none⟩) HX.out.2.2).trans HX.out.1
  have k1 := (S7.below.cell (p := ⟨w.heap.size, 1, none⟩) HX.out.2.2).trans HX.out.2.1
  clear kb7 sb7 H7 HS6
  rw [List.nil_append, List.nil_append] at S7
  have hap : textB s.data.toList ++ textB p.data.toList = textB t.data.toList ++ textB q.data.toList ↔ s.data.toList = t.data.toList ∧ p.data.toList = q.data.toList := text_apart2
  have hla : (textB s.data.toList ++ textB p.data.toList).length ≤ 2022 := by rw [List.length_append]; omega
  have hlb : (textB t.data.toList ++ textB q.data.toList).length ≤ 2022 := by rw [List.length_append]; omega
  have h0a : textB s.data.toList ++ textB p.data.toList ≠ [] := by simp [textB, number]
  have h0b : textB t.data.toList ++ textB q.data.toList ≠ [] := by simp [textB, number]
  generalize textB s.data.toList ++ textB p.data.toList = la at *
  generalize textB t.data.toList ++ textB q.data.toList = lb at *
  have HL := Lib.hid (And.intro hla (And.intro hlb (And.intro h0a h0b)))
  have e0 : ((bs la).toList == (bs lb).toList) = ((s.toList == t.toList) && (p.toList == q.toList)) := by
    rw [Bool.eq_iff_iff]
    simp only [Bool.and_eq_true, beq_iff_eq, Lib.toList_data, bs_list]
    exact hap
  have S7d : Two W Ka va6 la Kb vb7 lb w7.drew := S7.on (Below.refl _ _).drew
  clear hap hla hlb h0a h0b S7 k0 k1
  cases e1 : (s.toList == t.toList)
  all_goals cases e2 : (p.toList == q.toList)
  all_goals
    rw [e1, e2] at e0
    go_wp2_with fail
    refine Order.region_begin (S := Order.Fresh w7.drew) (by kernel_rfl) ?_
    refine Order.reads_any (idx := [0, 3, 7, 8, 9]) (by kernel_rfl) (Order.Fresh.refl _) (fun _ _ _ _ _ h => h) 14 _ _ (by kernel_rfl) ?_
    simp only [Order.pick, List.getElem?_toArray, List.getElem?_cons_zero, List.getElem?_cons_succ]
    repeat (first
      | (refine Order.reads_off (by rfl) ?_
         simp only [Act.put, List.setIfInBounds_toArray, List.set_cons_zero, List.set_cons_succ])
      | (apply Order.reads_on
         · rfl
         · intro x hx
           first
             | (go_simp; rfl)
             | fail
         simp only [Act.put, List.setIfInBounds_toArray, List.set_cons_zero, List.set_cons_succ]
         try simp only [e1, e2]))
    refine Order.reads_end ?_
    apply Order.acts_any (R := Order.Fresh) Order.Fresh.trans (i := 1)
    · rfl
    · kernel_rfl
    · rfl
    unfold Oper.wp
    go_simp
    refine Calls.mono (bytes_any W.heap.size Ka va6 la _ S7d.ka HL.out.2.2.1 (by have := HL.out.1; omega)) ?_
    rintro e w8 ⟨g8, p8, rfl, o8, b8⟩
    refine ⟨b8, ?_⟩
    have S8 := Two.on S7d b8
    have hcv8 : ∀ x, Order.Fresh w8 x → (Go.convert 43 9 (.slice (some ⟨g8, 0, none⟩) la.length p8)).run Tryd.prog x = .ok (.string (bs la)) x := fun x hx => conv_bytes (own_below o8 hx)
    clear b8 S7d
    refine Order.reads_any (idx := [2]) (by kernel_rfl) (Order.Fresh.refl _) (fun _ _ _ _ _ h => h) 12 _ _ (by kernel_rfl) ?_
    simp only [Order.pick, List.getElem?_toArray, List.getElem?_cons_zero, List.getElem?_cons_succ]
    repeat (first
      | (refine Order.reads_off (by rfl) ?_
         simp only [Act.put, List.setIfInBounds_toArray, List.set_cons_zero, List.set_cons_succ])
      | (apply Order.reads_on
         · rfl
         · intro x hx
           first
             | (go_simp; rfl)
             | (have i0 := hcv8 x hx
                go_simp; rfl)
         simp only [Act.put, List.setIfInBounds_toArray, List.set_cons_zero, List.set_cons_succ]
         try simp only [e1, e2]))
    refine Order.reads_end ?_
    apply Order.acts_any (R := Order.Fresh) Order.Fresh.trans (i := 4)
    · rfl
    · kernel_rfl
    · rfl
    unfold Oper.wp
    go_simp
    refine Calls.mono (bytes_any W.heap.size Kb vb7 lb _ S8.kb HL.out.2.2.2 (by have := HL.out.2.1; omega)) ?_
    rintro e w9 ⟨g9, p9, rfl, o9, b9⟩
    refine ⟨b9, ?_⟩
    have S9 := Two.on S8 b9
    have hcv9 : ∀ x, Order.Fresh w9 x → (Go.convert 43 9 (.slice (some ⟨g9, 0, none⟩) lb.length p9)).run Tryd.prog x = .ok (.string (bs lb)) x := fun x hx => conv_bytes (own_below o9 hx)
    clear b9 S8 hcv8
    have hq0 : ∀ x, Order.Fresh w9 x → x.cell? ⟨w.heap.size, 0, none⟩ = some (.string p) := fun x hx => ((S9.on hx).below.cell (p := ⟨w.heap.size, 0, none⟩) HX.out.2.2).trans HX.out.1
    have hq1 : ∀ x, Order.Fresh w9 x → x.cell? ⟨w.heap.size, 1, none⟩ = some (.string q) := fun x hx => ((S9.on hx).below.cell (p := ⟨w.heap.size, 1, none⟩) HX.out.2.2).trans HX.out.2.1
    refine Order.reads_any (idx := [5, 6, 10, 11, 12, 13, 14, 15, 16, 17, 18]) (by kernel_rfl) (Order.Fresh.refl _) (fun _ _ _ _ _ h => h) 0 _ _ (by kernel_rfl) ?_
    simp only [Order.pick, List.getElem?_toArray, List.getElem?_cons_zero, List.getElem?_cons_succ]
    repeat (first
      | (refine Order.reads_off (by rfl) ?_
         simp only [Act.put, List.setIfInBounds_toArray, List.set_cons_zero, List.set_cons_succ])
      | (apply Order.reads_on
         · rfl
         · intro x hx
           first
             | (go_simp; rfl)
             | (have i0 := hcv9 x hx
                have i1 := hq0 x hx
                have i2 := hq1 x hx
                go_simp; rfl)
         simp only [Act.put, List.setIfInBounds_toArray, List.set_cons_zero, List.set_cons_succ]
         try simp only [e0]))
    refine Order.reads_end ?_
    refine wpAnyH_done (by kernel_rfl) ?_ _
    refine NoPanic.normal ?_
    go_wp2
    go_ret
    exact ⟨rfl, HT.out.2.trans (S9.below.mono HT.out.2.size)⟩

theorem apart_walk (s t p q : ByteArray) (w : World) (_hs : s.size ≤ maxLen) (_ht : t.size ≤ maxLen) (htab : Tab w.heap.size w) :
    Calls Tryd.prog 6 #[.string s, .string t, .agg #[.string p, .string q]] w fun e x => e = .returned (.bool true) ∧ Below w.heap.size w x := by
  by_cases h : s.size ≤ 1000 ∧ t.size ≤ 1000 ∧ p.size ≤ 1000 ∧ q.size ≤ 1000
  · exact apart_short s t p q w htab h.1 h.2.1 h.2.2.1 h.2.2.2
  · exact apart_long s t p q w htab (by omega)
end Knot
end Go.Proofs.YtoeaapomjjclaaaDoor
