/-
  GrammarJoins, walked.
-/
import Derived.Test.YtbphmaoomnocmaaDoorGrAwake
import Derived.Test.YtbphmaoomnocmaaDoorMgPure
import Derived.Test.YtbphmaoomnocmaaDoorGrSameB
import Derived.Test.YtbphmaoomnocmaaDoorMgMem
namespace Go.Proofs.YtbphmaoomnocmaaDoor
open Go.RowKit
namespace LawG7Joins
open Gr
open Knot (Turns NewRow)
open Tr (Nd none0 own_slice own_below size wp_none wp_rows)
open Sg (Tok kt plV)

/-! ### what is parsed is good, and no longer than its tokens -/
theorem tot_len {α : Type} (sz : α → Nat) : ∀ l : List α, l.length ≤ tot sz l
  | [] => Nat.le_refl _
  | a :: l => by rw [tot, List.length_cons]; have := tot_len sz l; omega
theorem tot_mem {α : Type} (sz : α → Nat) : ∀ {l : List α} {a : α}, a ∈ l → sz a ≤ tot sz l
  | b :: l, a, h => by
    rw [tot]
    rcases List.mem_cons.1 h with rfl | h
    · omega
    · have := tot_mem sz h; omega
theorem parse_size {s : ByteArray} (h : (parseA s).2.2 = 0) : (∀ t ∈ (parseA s).1, TG t) ∧ (parseA s).1.length ≤ 6000 ∧ Fit (parseA s).1 := by
  obtain ⟨q, hq, hl, hok, hu⟩ := parse_good h
  obtain ⟨-, h2, h3⟩ := config_reads.good ⟨kt (Sg.lex (1, 1) q).1, 0⟩ (words_of q (1, 1)) (by rw [hu])
  rw [hu] at h2 h3
  simp only at h2 h3
  have := (Sg.lex_tells q.length q (1, 1) (Nat.le_refl _)).2
  have h4 := Sg.again_len (Sg.lex (1, 1) q).1
  rw [Sg.kt_len] at h3
  refine ⟨h2, ?_, fun t ht r hr => ?_⟩
  · have := tot_len (fun t => tot (fun r => size r.expr) t.rels) (parseA s).1
    omega
  · have h5 := tot_mem (fun t => tot (fun r => size r.expr) t.rels) ht
    have h6 := tot_mem (fun r : Rl => size r.expr) hr
    omega

/-! ### two rows of types, one behind the other -/
/-- Types behind types, an operation alone. -/
theorem wp_types {Q : Exit → Act → World → Prop} {o : Oper} {a : Act} {w : World} {K : Act → World → Prop} (s x : Operand) (ho : o.op = .call { callee := .builtin .append, args := #[s, x], argTypes := #[36, 36] })
    {B C n m : Nat} {v u : Value} {xs news : List Value} (hs : a.eval s = v) (hx : a.eval x = u) (h1 : w.ownsRow B tTy 2 v n xs) (h2 : w.ownsRow C tTy 2 u m news) (hB : B ≤ w.heap.size) (hone : ∀ c ∈ news, c.oneCell' = true) (hz : n + m ≤ 100000)
    (h : ∀ v' y, y.ownsRow B tTy 2 v' (n + m) (xs ++ news) → Below B w y → K (a.put o.dst v') y) : o.wp Tryd.prog a w K Q := by
  obtain ⟨ti, tz, tb', T, hT⟩ := elT
  rcases h2.2 with ⟨rfl, h0⟩ | ⟨g, cap, cur, rfl, hbg, hg, hnc, hcm, hcs, htake⟩
  · subst h0
    have hnil : news = [] := List.eq_nil_of_length_eq_zero (by simpa using h2.1)
    subst hnil
    refine wp_none T s x ho hs hx h1 (by omega) (h _ _ ?_ (Below.refl _ _))
    rw [List.append_nil]
    exact h1
  · exact wp_rows T s x ho hs hx h1 hB h2.1 (h2.cells (g := g) rfl) hone (by omega) (Nat.le_trans (Nat.mul_le_mul_left _ hT) (by omega)) fun v' y ho hgr _ => h v' y ho ((Below.refl _ _).grown hgr hB fun k hk => (h1.lt k hk).1)
/-- A row of types, told by its values. -/
def Row (w : World) (B : Nat) (v : Value) (l : List Ty) (vs : List Value) : Prop :=
  w.ownsRow B tTy 2 v l.length (cellsV vs) ∧ vs.length = l.length ∧ (∀ u ∈ vs, u.cells.size = 2) ∧ (∀ c ∈ cellsV vs, c.oneCell' = true) ∧ ∀ (i : Nat) (a : Ty) (u : Value), l[i]? = some a → vs[i]? = some u → IsTy w a u
theorem Row.of {w : World} {B : Nat} {v : Value} {l : List Ty} (h : RowS tyE w B tTy v l) : ∃ vs, Row w B v l vs := by
  obtain ⟨vs, h1, h2, h3⟩ := h
  refine ⟨vs, h1, h2, cellsV_len (E := tyE) h2 h3, fun c hc => ?_, fun i a u hi hu => TyS.is (h3 i a u hi hu)⟩
  rw [cellsV, List.mem_flatMap] at hc
  obtain ⟨u, hu, hc⟩ := hc
  obtain ⟨i, hi, rfl⟩ := List.getElem_of_mem hu
  exact tyE.one (h3 i (l[i]'(by omega)) _ (List.getElem?_eq_getElem _) (List.getElem?_eq_getElem _)) c hc
theorem Row.on {w x : World} {B : Nat} {v : Value} {l : List Ty} {vs : List Value} (h : Row w B v l vs) (hb : Below w.heap.size w x) : Row x B v l vs :=
  ⟨own_below h.1 hb, h.2.1, h.2.2.1, h.2.2.2.1, fun i a u hi hu => (h.2.2.2.2 i a u hi hu).below hb⟩
theorem Row.cf {w y : World} {B C1 C2 : Nat} {v v1 v2 : Value} {l m : List Ty} {vs us : List Value} (h1 : Row w C1 v1 l vs) (h2 : Row w C2 v2 m us) (hb : Below w.heap.size w y) (ho : y.ownsRow B tTy 2 v (l.length + m.length) (cellsV vs ++ cellsV us)) :
    IsCf y (l ++ m) (.agg #[v]) := by
  rw [← List.length_append, ← cellsV_append] at ho
  obtain ⟨ao, cap, rfl⟩ := own_slice ho
  refine ⟨ao, cap, vs ++ us, rfl, Lies.of_own ho (by simp [h1.2.1, h2.2.1]) (fun u hu => ?_) fun i a u hi hu => ?_⟩
  · rcases List.mem_append.1 hu with hu | hu
    · exact h1.2.2.1 u hu
    · exact h2.2.2.1 u hu
  · by_cases hlt : i < l.length
    · rw [List.getElem?_append_left hlt] at hi
      rw [List.getElem?_append_left (by have := h1.2.1; omega)] at hu
      exact (h1.2.2.2.2 i a u hi hu).below hb
    · rw [List.getElem?_append_right (by omega)] at hi
      rw [List.getElem?_append_right (by have := h1.2.1; omega), h1.2.1] at hu
      exact (h2.2.2.2.2 _ a u hi hu).below hb
/-- A new list of none. -/
theorem none_new (w : World) : (w.alloc (.cells #[] tTy)).ownsRow w.heap.size tTy 2 (.slice (some ⟨w.heap.size, 0, none⟩) 0 0) 0 [] :=
  ⟨rfl, .inr ⟨w.heap.size, 0, #[], rfl, Nat.le_refl _, heap_alloc_new w _, Nat.le_refl _, Nat.zero_le _, rfl, rfl⟩⟩

/-- Nothing older than a block turns. -/
def RelB (B : Nat) (x y : World) : Prop := Below B x y
theorem RelB.refl (B : Nat) (x : World) : RelB B x x := Below.refl _ _
theorem RelB.trans {B : Nat} {x y z : World} (h : RelB B x y) (k : RelB B y z) : RelB B x z := Below.trans h k
def line : ByteArray := ⟨#[10]⟩
theorem z1 (b : UInt8) : (⟨#[b]⟩ : ByteArray).size = 1 := rfl
set_option maxHeartbeats 16000000 in
set_option maxRecDepth 100000 in
theorem early (s t : ByteArray) (w : World) {a0 a1 : Addr} (hg : Glob a0 a1 w) (h : 1400 < s.size ∨ 1400 < t.size) :
    Calls Tryd.prog 6 #[.string s, .string t] w fun e y => e = .returned (.bool true) ∧ Below w.heap.size w y := by
  have HA := Lib.hid (fun y (hb : Below w.heap.size w y) => awake_any (hg.below hb))
  clear hg
  by_cases g1 : 1400 < s.size
  · have e1 : decide ((1400 : Int) < (s.size : Int)) = true := by simp; omega
    clear h g1
    go_enter Tryd.func6, Tryd.ntmps6
    go_wp2_with fail
    refine (HA.out w (Below.refl _ _)).mono ?_
    rintro e w1 ⟨rfl, b1⟩
    have HB1 := Lib.hid b1
    clear b1
    go_wp2_with fail
    refine (HA.out _ HB1.out).mono ?_
    rintro e w2 ⟨rfl, b2⟩
    go_wp2_with fail
    go_ret
    exact ⟨rfl, HB1.out.trans (b2.mono HB1.out.size)⟩
  have e1 : decide ((1400 : Int) < (s.size : Int)) = false := by simp; omega
  have e2 : decide ((1400 : Int) < (t.size : Int)) = true := by simp; omega
  clear h g1
  go_enter Tryd.func6, Tryd.ntmps6
  go_wp2_with fail
  refine (HA.out w (Below.refl _ _)).mono ?_
  rintro e w1 ⟨rfl, b1⟩
  have HB1 := Lib.hid b1
  clear b1
  go_wp2_with fail
  refine (HA.out _ HB1.out).mono ?_
  rintro e w2 ⟨rfl, b2⟩
  go_wp2_with fail
  go_ret
  exact ⟨rfl, HB1.out.trans (b2.mono HB1.out.size)⟩

set_option maxHeartbeats 16000000 in
set_option maxRecDepth 100000 in
theorem main (s t : ByteArray) (w : World) (g1 : s.size ≤ 1400) (g2 : t.size ≤ 1400) {a0 a1 : Addr} (hg : Glob a0 a1 w) :
    Calls Tryd.prog 6 #[.string s, .string t] w fun e y => e = .returned (.bool true) ∧ Below w.heap.size w y := by
  have HA := Lib.hid (awake_any hg)
  have HJ := Lib.hid (fun h1 h2 => joins_any (s := s) (t := t) (j := s ++ line ++ t) g1 g2 h1 h2 (by simp [ByteArray.data_append, line]))
  have hsz : (s ++ line ++ t).size ≤ 4000000 := by simp only [ByteArray.size_append, line, z1]; omega
  have HP1 := Lib.hid (fun y (hb : Below w.heap.size w y) => Parse_any (s := s) (by omega) (hg.below hb))
  have HP2 := Lib.hid (fun y (hb : Below w.heap.size w y) => Parse_any (s := t) (by omega) (hg.below hb))
  have HP3 := Lib.hid (fun y (hb : Below w.heap.size w y) => Parse_any (s := s ++ line ++ t) hsz (hg.below hb))
  have HS1 := Lib.hid (fun h => parse_size (s := s) h)
  have HS2 := Lib.hid (fun h => parse_size (s := t) h)
  have HS3 := Lib.hid (fun h => parse_size (s := s ++ line ++ t) h)
  have e1 : decide ((1400 : Int) < (s.size : Int)) = false := by simp; omega
  have e2 : decide ((1400 : Int) < (t.size : Int)) = false := by simp; omega
  have q0 : ∀ W, (Op.stringOp .add s (⟨#[10]⟩ : ByteArray)).run Tryd.prog W = .ok (.string (s ++ line)) W := fun W => run_string_add_sum W _ _ (by simp only [z1]; omega)
  have q1 : ∀ W, (Op.stringOp .add (s ++ line) t).run Tryd.prog W = .ok (.string (s ++ line ++ t)) W := fun W => run_string_add_sum W _ _ (by simp only [ByteArray.size_append, line, z1]; omega)
  have Q0 := Lib.hid q0
  have Q1 := Lib.hid q1
  clear hg hsz g1 g2 q0 q1
  go_enter Tryd.func6, Tryd.ntmps6
  go_wp2_with fail
  refine HA.out.mono ?_
  rintro e w1 ⟨rfl, b1⟩
  have HB1 := Lib.hid b1
  clear b1 HA
  go_wp2_with fail
  refine (HP1.out _ HB1.out).mono ?_
  rintro e y1 ⟨v1, rfl, ⟨o1, c1, rfl, hr1⟩, by1⟩
  clear e1 e2 HP1
  generalize hL1 : parseA s = r1 at *
  obtain ⟨n1, ⟨l1, m1⟩, k1⟩ := r1
  simp only [plV] at *
  obtain ⟨vs1, hw1⟩ := Row.of hr1
  obtain ⟨p1, p2, p3, p4⟩ := two_boxes y1 #[.slice o1 n1.length c1] #[.int .i64 l1, .int .i64 m1] tCf tPl
  have H1 := Lib.hid (And.intro ((HB1.out.trans (by1.mono HB1.out.size)).trans (p1.mono (Nat.le_trans HB1.out.size by1.size))) (And.intro p2 (hw1.on p1)))
  clear hr1 by1 p1 p2 p3 p4 hw1 HB1 hL1
  go_wp2_with fail
  generalize (y1.alloc (.cells #[.slice o1 n1.length c1] tCf)).alloc (.cells #[.int .i64 l1, .int .i64 m1] tPl) = A1 at *
  generalize y1.heap.size = R1 at *
  generalize w1.heap.size = C1 at *
  refine (HP2.out _ H1.out.1).mono ?_
  rintro e y2 ⟨v2, rfl, ⟨o2, c2, rfl, hr2⟩, by2⟩
  clear HP2
  generalize parseA t = r2 at *
  obtain ⟨n2, ⟨l2, m2⟩, k2⟩ := r2
  simp only at *
  obtain ⟨vs2, hw2⟩ := Row.of hr2
  obtain ⟨p1, p2, p3, p4⟩ := two_boxes y2 #[.slice o2 n2.length c2] #[.int .i64 l2, .int .i64 m2] tCf tPl
  have b12 := by2.trans (p1.mono by2.size)
  have H2 := Lib.hid (And.intro (H1.out.1.trans (b12.mono H1.out.1.size)) (And.intro ((b12.block _ (Array.getElem?_eq_some_iff.1 H1.out.2.1).1).trans H1.out.2.1) (And.intro p2 (And.intro (H1.out.2.2.on b12) (hw2.on p1)))))
  have q0 := Q0.out
  have q1 := Q1.out
  clear hr2 by2 p1 p2 p3 p4 hw2 b12 H1 Q0 Q1
  go_wp2_with fail
  clear q0 q1
  generalize (y2.alloc (.cells #[.slice o2 n2.length c2] tCf)).alloc (.cells #[.int .i64 l2, .int .i64 m2] tPl) = A2 at *
  generalize y2.heap.size = R2 at *
  generalize A1.heap.size = C2 at *
  refine (HP3.out _ H2.out.1).mono ?_
  rintro e y3 ⟨v3, rfl, ⟨o3, c3, rfl, hr3⟩, by3⟩
  clear HP3
  generalize parseA (s ++ line ++ t) = r3 at *
  obtain ⟨n3, ⟨l3, m3⟩, k3⟩ := r3
  simp only at *
  obtain ⟨p1, p2, p3, p4⟩ := two_boxes y3 #[.slice o3 n3.length c3] #[.int .i64 l3, .int .i64 m3] tCf tPl
  have b12 := by3.trans (p1.mono by3.size)
  have hcf : IsCf y3 n3 (.agg #[.slice o3 n3.length c3]) := CfS.is ⟨_, _, rfl, hr3⟩
  have H3 := Lib.hid (And.intro (H2.out.1.trans (b12.mono H2.out.1.size)) (And.intro ((b12.block _ (Array.getElem?_eq_some_iff.1 H2.out.2.1).1).trans H2.out.2.1) (And.intro ((b12.block _ (Array.getElem?_eq_some_iff.1 H2.out.2.2.1).1).trans H2.out.2.2.1) (And.intro p2 (And.intro (H2.out.2.2.2.1.on b12) (And.intro (H2.out.2.2.2.2.on b12) (hcf.below p1)))))))
  clear hr3 by3 p1 p2 p3 p4 b12 H2 hcf
  by_cases k1z : k1 = 0
  · subst k1z
    by_cases k2z : k2 = 0
    · subst k2z
      obtain ⟨k3z, hn3⟩ := HJ.out rfl rfl
      subst k3z
      have HN := Lib.hid hn3
      clear hn3
      have z1 := (HS1.out rfl).2.1
      have z2 := (HS2.out rfl).2.1
      have HZ := Lib.hid (And.intro z1 z2)
      have HF := Lib.hid (HS3.out rfl).2.2
      clear HJ HS1 HS2 HS3 z1 z2
      go_wp2_with fail
      generalize (y3.alloc (.cells #[.slice o3 n3.length c3] tCf)).alloc (.cells #[.int .i64 l3, .int .i64 m3] tPl) = A3 at *
      generalize y3.heap.size = R3 at *
      have HX := Lib.hid (show ∀ x, RelB A3.heap.size A3.drew x → x.cell? ⟨R1, 0, none⟩ = some (.slice o1 n1.length c1) ∧ x.cell? ⟨R2, 0, none⟩ = some (.slice o2 n2.length c2) ∧ x.cell? ⟨R3, 0, none⟩ = some (.slice o3 n3.length c3) from
        fun x hx => ⟨box1 ((((Below.refl A3.heap.size A3).drew.trans hx).block _ (Array.getElem?_eq_some_iff.1 H3.out.2.1).1).trans H3.out.2.1), box1 ((((Below.refl A3.heap.size A3).drew.trans hx).block _ (Array.getElem?_eq_some_iff.1 H3.out.2.2.1).1).trans H3.out.2.2.1), box1 ((((Below.refl A3.heap.size A3).drew.trans hx).block _ (Array.getElem?_eq_some_iff.1 H3.out.2.2.2.1).1).trans H3.out.2.2.2.1)⟩)
      refine Order.region_begin (S := RelB A3.heap.size A3.drew) (by kernel_rfl) ?_
      refine Order.reads_any (idx := [0, 1, 2, 3, 5, 6, 8, 9]) (by kernel_rfl) (RelB.refl _ _) (fun _ _ _ _ _ h => Order.noPanic_put h) 7 _ _ (by decide +kernel) ?_
      simp only [Order.pick, List.getElem?_toArray, List.getElem?_cons_zero, List.getElem?_cons_succ]
      repeat (first
        | (refine Order.reads_off (by rfl) ?_
           simp only [Act.put, List.setIfInBounds_toArray, List.set_cons_zero, List.set_cons_succ])
        | (apply Order.reads_on
           · rfl
           · intro x hx
             first
               | (go_simp; rfl)
               | (obtain ⟨i1, i2, i3⟩ := HX.out x hx
                  go_simp; rfl)
           simp only [Act.put, List.setIfInBounds_toArray, List.set_cons_zero, List.set_cons_succ]))
      refine Order.reads_end ?_
      apply Order.acts_any (R := (RelB A3.heap.size)) RelB.trans (i := 4)
      · rfl
      · decide +kernel
      · rfl
      unfold Oper.wp
      go_simp
      have hn0 : ((A3.alloc (.cells #[] tTy)).drew).ownsRow A3.heap.size tTy 2 (.slice (some ⟨A3.heap.size, 0, none⟩) 0 0) 0 [] := none_new A3.drew
      have hb4 : Below A3.heap.size A3 (A3.alloc (.cells #[] tTy)).drew := ((Below.refl A3.heap.size A3).alloc (Nat.le_refl _) _).drew
      refine ⟨(show Below A3.heap.size A3.drew (A3.drew.alloc (.cells #[] tTy)) from (Below.refl A3.heap.size A3.drew).alloc (Nat.le_of_eq rfl) _), ?_⟩
      generalize (A3.alloc (.cells #[] tTy)).drew = W4 at *
      clear HX
      apply Order.acts_any (R := (RelB A3.heap.size)) RelB.trans (i := 7)
      · rfl
      · decide +kernel
      · rfl
      simp only [List.getElem_toArray, List.getElem_cons_succ, List.getElem_cons_zero]
      refine wp_types (.tmp 58) (.tmp 60) rfl (by rfl) (by rfl) hn0 (H3.out.2.2.2.2.1.on hb4).1 hb4.size H3.out.2.2.2.2.1.2.2.2.1 (by have := HZ.out; omega) ?_
      intro v5 W5 ho5 hb5
      refine ⟨hb5, ?_⟩
      simp only [Act.put, List.setIfInBounds_toArray, List.set_cons_zero, List.set_cons_succ]
      have hb5' := hb4.trans hb5
      rw [List.nil_append, Nat.zero_add] at ho5
      clear hn0 hb5
      apply Order.acts_any (R := (RelB A3.heap.size)) RelB.trans (i := 10)
      · rfl
      · decide +kernel
      · rfl
      simp only [List.getElem_toArray, List.getElem_cons_succ, List.getElem_cons_zero]
      refine wp_types (.tmp 61) (.tmp 63) rfl (by rfl) (by rfl) ho5 (H3.out.2.2.2.2.2.1.on hb5').1 hb5'.size H3.out.2.2.2.2.2.1.2.2.2.1 (by have := HZ.out; omega) ?_
      intro v6 W6 ho6 hb6
      obtain ⟨ao6, cap6, rfl⟩ := own_slice ho6
      refine ⟨hb6, ?_⟩
      simp only [Act.put, List.setIfInBounds_toArray, List.set_cons_zero, List.set_cons_succ]
      have hb6' := hb5'.trans hb6
      have hcf := Row.cf H3.out.2.2.2.2.1 H3.out.2.2.2.2.2.1 hb6' ho6
      have hcf3 := H3.out.2.2.2.2.2.2.below hb6'
      rw [← HN.out] at hcf
      have HC := Lib.hid (samecfg_any HF.out hcf3 hcf)
      have HE := Lib.hid (H3.out.1.trans (hb6'.mono H3.out.1.size))
      have HSZ := Lib.hid hb6'.size
      clear hb4 hb5' hb6 hb6' hcf hcf3 ho5 ho6 H3 HN HF HZ
      refine Order.reads_any (idx := [11]) (by kernel_rfl) (RelB.refl _ _) (fun _ _ _ _ _ h => Order.noPanic_put h) 3 _ _ (by decide +kernel) ?_
      simp only [Order.pick, List.getElem?_toArray, List.getElem?_cons_zero, List.getElem?_cons_succ]
      repeat (first
        | (refine Order.reads_off (by rfl) ?_
           simp only [Act.put, List.setIfInBounds_toArray, List.set_cons_zero, List.set_cons_succ])
        | (apply Order.reads_on
           · rfl
           · intro x hx
             first
               | (go_simp; rfl)
               | (fail
                  go_simp; rfl)
           simp only [Act.put]))
      refine Order.reads_end ?_
      apply Order.acts_any (R := (RelB A3.heap.size)) RelB.trans (i := 12)
      · rfl
      · decide +kernel
      · rfl
      unfold Oper.wp
      go_simp
      refine Calls.mono HC.out ?_
      rintro e w7 ⟨rfl, hb7⟩
      refine ⟨hb7.mono HSZ.out, ?_⟩
      have HE2 := Lib.hid (HE.out.trans (hb7.mono HE.out.size))
      clear hb7 HE HC
      refine Order.reads_any (idx := [13, 14]) (by kernel_rfl) (RelB.refl _ _) (fun _ _ _ _ _ h => Order.noPanic_put h) 0 _ _ (by decide +kernel) ?_
      simp only [Order.pick, List.getElem?_toArray, List.getElem?_cons_zero, List.getElem?_cons_succ]
      repeat (first
        | (refine Order.reads_off (by rfl) ?_
           simp only [Act.put, List.setIfInBounds_toArray, List.set_cons_zero, List.set_cons_succ])
        | (apply Order.reads_on
           · rfl
           · intro x hx
             first
               | (go_simp; rfl)
               | (fail
                  go_simp; rfl)
           simp only [Act.put, List.setIfInBounds_toArray, List.set_cons_zero, List.set_cons_succ]))
      refine Order.reads_end ?_
      refine wpAnyH_done (by decide +kernel) ?_ _
      refine NoPanic.normal ?_
      go_wp2_with fail
      go_ret
      exact ⟨rfl, HE2.out⟩
    · go_wp2_with fail
      go_ret
      exact ⟨rfl, H3.out.1⟩
  · go_wp2_with fail
    go_ret
    exact ⟨rfl, H3.out.1⟩

theorem walk (s t : ByteArray) (w : World) (_hs : s.size ≤ maxLen) (_ht : t.size ≤ maxLen) {a0 a1 : Addr} (hg : Glob a0 a1 w) :
    Calls Tryd.prog 6 #[.string s, .string t] w fun e y => e = .returned (.bool true) ∧ Below w.heap.size w y := by
  by_cases g1 : 1400 < s.size
  · exact early s t w hg (.inl g1)
  by_cases g2 : 1400 < t.size
  · exact early s t w hg (.inr g2)
  exact main s t w (by omega) (by omega) hg
end LawG7Joins
end Go.Proofs.YtbphmaoomnocmaaDoor
