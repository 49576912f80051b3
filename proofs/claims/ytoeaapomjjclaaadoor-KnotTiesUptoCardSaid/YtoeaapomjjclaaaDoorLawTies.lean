/-
  The statement KnotTies at every number, text and list of tuples of bounded size. What is asked: the library's table of powers of ten.
-/
import Derived.Test.YtoeaapomjjclaaaDoorKnAwake
import Derived.Test.YtoeaapomjjclaaaDoorRefKB
import Derived.Test.YtoeaapomjjclaaaDoorInE
import Derived.Test.YtoeaapomjjclaaaDoorArgs
import Derived.Test.YtoeaapomjjclaaaDoorOrder
namespace Go.Proofs.YtoeaapomjjclaaaDoor
open Go.RowKit Go.Sort
namespace Knot
open Who (bs bs_list bs_size bs_self eq_of_list Held)
open Bond (L3)

set_option maxHeartbeats 4000000 in
set_option maxRecDepth 100000 in
theorem ties_long (n : Int) (s : ByteArray) (v : Value) (l : List (L3 × L3)) (w : World) (hv : IsTups w v l) (htab : Tab w.heap.size w) (h : 2000 < s.size ∨ 60 < l.length) :
    Calls Tryd.prog 3 #[.int .i64 n, .string s, v] w fun e x => e = .returned (.bool true) ∧ Below w.heap.size w x := by
  have HA := Lib.hid (awake_any w htab)
  have HT := Lib.hid htab
  obtain ⟨ao, cc, rfl⟩ := hv.len
  have h' : 2000 < s.size ∨ (s.size ≤ 2000 ∧ 60 < l.length) := by omega
  clear hv htab h
  rcases h' with h | h
  all_goals
    go_enter Tryd.func3, Tryd.ntmps3
    go_wp2_with fail
    refine HA.out.mono ?_
    rintro e w1 ⟨rfl, b1⟩
    have HA2 := Lib.hid (awake_any w1 (tab_up HT.out b1))
    have B1 := Lib.hid b1
    clear b1
    go_wp2_with fail
    refine HA2.out.mono ?_
    rintro e w2 ⟨rfl, b2⟩
    go_wp2
    go_ret
    exact ⟨rfl, B1.out.trans (b2.mono B1.out.size)⟩

/-- What the loop ties for a tuple. -/
def both (p : L3 × L3) : List UInt8 := three p.2 ++ tupleB p
theorem both_len : ∀ l : List (L3 × L3), (l.flatMap both).length ≤ 2 * (l.flatMap tupleB).length
  | [] => Nat.zero_le _
  | p :: l => by
    have := both_len l
    rw [List.flatMap_cons, List.flatMap_cons, List.length_append, List.length_append, both, List.length_append, tupleB, List.length_append]
    omega
theorem both_take (l : List (L3 × L3)) (k : Nat) (hk : k < l.length) : (l.take (k + 1)).flatMap both = (l.take k).flatMap both ++ both l[k] := by
  rw [List.take_succ_eq_append_getElem hk, List.flatMap_append, List.flatMap_cons, List.flatMap_nil, List.append_nil]
theorem both_part (l : List (L3 × L3)) (k : Nat) (hk : k < l.length) : ((l.take k).flatMap both).length + (both l[k]).length ≤ (l.flatMap both).length := by
  have h := congrArg List.length (both_take l k hk)
  rw [List.length_append] at h
  have h2 : (l.flatMap both).length = ((l.take (k + 1)).flatMap both).length + ((l.drop (k + 1)).flatMap both).length := by
    rw [← List.length_append, ← List.flatMap_append, List.take_append_drop]
  omega
/-- A row of bytes, whatever they are. -/
def RowB (x : World) (g N : Nat) : Prop := ∃ cur : Array Value, x.heap[g]? = some (.cells cur 5 (0, 0)) ∧ N ≤ cur.size ∧ ∀ j, j < N → ∃ z : Int, cur[j]? = some (.int .u8 z)
theorem RowB.own {x : World} {B g cap : Nat} {l : List UInt8} (h : x.ownsRow B 5 1 (.slice (some ⟨g, 0, none⟩) l.length cap) l.length (Lib.byteCells l)) (h0 : l ≠ []) : RowB x g l.length := by
  rcases h.2 with ⟨hn, -⟩ | ⟨g', cap', cur, hv, -, hg, hc, -, hs, htk⟩
  · cases hn
  · obtain ⟨hg1, -, rfl⟩ : some (⟨g, 0, none⟩ : Addr) = some ⟨g', 0, none⟩ ∧ l.length = l.length ∧ cap = cap' := by simpa using hv
    obtain rfl : g = g' := by simpa using hg1
    refine ⟨cur, hg, by omega, fun j hj => ?_⟩
    have h1 : (Lib.byteCells l)[j]? = some (.int .u8 (l[j].toNat : Int)) := by simp [Lib.byteCells, hj]
    rw [← htk, List.getElem?_take, if_pos (by omega)] at h1
    exact ⟨_, by simpa using h1⟩
theorem RowB.cell {x : World} {g N j : Nat} (h : RowB x g N) (hj : j < N) : ∃ z : Int, x.cell? ⟨g, j, none⟩ = some (.int .u8 z) ∧ x.frozen? ⟨g, j, none⟩ = false := by
  obtain ⟨cur, hg, hs, hc⟩ := h
  obtain ⟨z, hz⟩ := hc j hj
  exact ⟨z, by rw [Lib.cell_of_heap hg]; exact hz, Lib.frozen_of_heap hg j⟩
theorem RowB.put {x : World} {g N j : Nat} (h : RowB x g N) (z : Int) : RowB (x.setCell ⟨g, j, none⟩ (.int .u8 z)) g N := by
  obtain ⟨cur, hg, hs, hc⟩ := h
  refine ⟨_, heap_setCell_same x g j cur _ _ hg, by rw [Array.size_setIfInBounds]; exact hs, fun k hk => ?_⟩
  rw [Array.getElem?_setIfInBounds]
  by_cases e : j = k
  · rw [if_pos e]
    subst e
    rw [if_pos (by omega)]
    exact ⟨_, rfl⟩
  · rw [if_neg e]
    exact hc k hk
theorem elemB : Tryd.prog.underlying 43 = some (.slice (Tryd.prog.elem 43)) := by kernel_rfl
theorem sizeB : ∀ w, (sizeOf (Tryd.prog.elem 43)).run Tryd.prog w = .ok 1 w := fun w => by kernel_rfl
theorem byte_index (g n c j : Nat) (hj : j < n) (W : World) : (Instr.indexAt 43 (.slice (some ⟨g, 0, none⟩) n c) (.int .i64 (j : Int))).run Tryd.prog W = .ok (.pointer (some ⟨g, j, none⟩)) W := by
  rw [run_indexAt_slice W _ _ _ _ _ _ elemB, if_pos ⟨by omega, by omega⟩, sizeB]
  have e : ((j : Int)).toNat = j := by omega
  simp only [Result.andThen_ok, e, Addr.add_lit, Nat.mul_one, Nat.zero_add]
theorem Small.up {a b : Nat} {y : L3} (h : Small a y) (hab : a ≤ b) : Small b y := ⟨Nat.le_trans h.1 hab, Nat.le_trans h.2.1 hab, Nat.le_trans h.2.2 hab⟩

set_option maxHeartbeats 8000000 in
set_option maxRecDepth 100000 in
theorem ties_good (u : Nat) (s : ByteArray) (v : Value) (l : List (L3 × L3)) (w : World) (hv : IsTups w v l) (htab : Tab w.heap.size w) (hu : u ≤ 9007199254740992) (hs : s.size ≤ 2000) (hl : l.length ≤ 60) (hw : wts l ≤ 1048576) :
    Calls Tryd.prog 3 #[.int .i64 u, .string s, v] w fun e x => e = .returned (.bool true) ∧ Below w.heap.size w x := by
  obtain ⟨ao, cc, rfl⟩ := hv.len
  obtain ⟨hsm, -, hfl⟩ := wts_small l 1048576 (Nat.le_refl _) hw
  have hbig := both_len l
  replace hbig : (l.flatMap both).length ≤ 18874368 := by omega
  have htb : (tuplesB l).length ≤ 9437206 := by
    rw [tuplesB, List.length_append]
    have := number_len (k := 19) (n := l.length) (by omega)
    omega
  have hts : (textB s.data.toList).length ≤ 2011 := by
    have := textB_len (s := s.data.toList) (by rw [← Lib.size_eq]; omega)
    rw [← Lib.size_eq] at this
    omega
  have HV := Lib.hid hv
  have HT := Lib.hid htab
  have HS := Lib.hid (show SmallAll 4000000 l from fun p hp => ⟨(hsm p hp).1.up (by omega), (hsm p hp).2.up (by omega)⟩)
  have HA := Lib.hid (awake_any w htab)
  clear hv htab hw hsm hfl
  have hpre : (number u).length ≤ 21 := by have := len_digits (n := u) (by omega); rw [number, List.length_append, List.length_singleton]; omega
  go_enter Tryd.func3, Tryd.ntmps3
  go_wp2_with fail
  refine HA.out.mono ?_
  rintro e w1 ⟨rfl, b1⟩
  have B1 := Lib.hid b1
  have HN := Lib.hid (new_any w1)
  clear b1 HA
  go_wp2_with fail
  refine HN.out.mono ?_
  rintro e w2 ⟨K, rfl, -, k2, b2⟩
  have T2 := Lib.hid (fun (x : World) (hx : Below w1.heap.size w1 x) => show Tab w1.heap.size x from fun y hy => HT.out y (B1.out.trans ((hx.trans hy).mono B1.out.size)))
  have H2 := Lib.hid (And.intro k2 b2)
  have HU := Lib.hid (number_good w1.heap.size K u _ _ w2 k2 hu (by simp) (T2.out w2 b2))
  clear k2 b2 HN
  go_wp2_with fail
  refine HU.out.mono ?_
  rintro e w3 ⟨rfl, v3, k3, s3⟩
  rw [List.nil_append] at k3
  have H3 := Lib.hid (And.intro k3 (H2.out.2.trans (s3.below H2.out.1)))
  have HR := Lib.hid (rnumber_any u w3 (by omega))
  clear k3 s3 H2 HU
  go_wp2_with fail
  refine HR.out.mono ?_
  rintro e w4 ⟨rfl, b4⟩
  have H4 := Lib.hid (And.intro (H3.out.1.keep_below b4) (H3.out.2.trans (b4.mono H3.out.2.size)))
  clear b4 H3 HR
  have C5 := Lib.hid (text_any w1.heap.size K _ (number u) s w4 H4.out.1 (by omega) (by omega) (T2.out w4 H4.out.2))
  go_wp2_with fail
  refine C5.out.mono ?_
  rintro e w5 ⟨rfl, v5, k5, s5⟩
  have H5 := Lib.hid (And.intro k5 (H4.out.2.trans (s5.below H4.out.1)))
  have C6 := Lib.hid (mark_any w1.heap.size K v5 _ ((u : Int) % 2 == 0) w5 k5 (by rw [List.length_append]; omega))
  clear k5 s5 C5 H4
  go_wp2_with fail
  refine C6.out.mono ?_
  rintro e w6 ⟨rfl, v6, k6, s6⟩
  have hm1 : (markB ((u : Int) % 2 == 0)).length = 1 := by cases ((u : Int) % 2 == 0) <;> rfl
  have b6 := H5.out.2.trans (s6.below H5.out.1)
  have H6 := Lib.hid (And.intro k6 b6)
  have C7 := Lib.hid (ktuples_any w1.heap.size K v6 _ _ l w6 k6 (HV.out.below (B1.out.trans (b6.mono B1.out.size))) (fun hne k hk => Nat.lt_of_lt_of_le (HV.out.lt hne k hk) B1.out.size) (by rw [List.length_append, List.length_append]; omega) HS.out (by omega) (T2.out w6 b6))
  clear k6 s6 b6 C6 H5
  go_wp2_with fail
  refine C7.out.mono ?_
  rintro e w7 ⟨rfl, v7, k7, s7⟩
  have H7 := Lib.hid (And.intro k7 (H6.out.2.trans (s7.below H6.out.1)))
  clear k7 s7 C7 H6
  have hcat : bs (number u) ++ (bs (textB s.data.toList) ++ bs (markB ((u : Int) % 2 == 0)) ++ bs (tuplesB l)) = bs (number u ++ textB s.data.toList ++ markB ((u : Int) % 2 == 0) ++ tuplesB l) := by rw [Who.bs_add, Who.bs_add, Who.bs_add]; simp
  have hblen : (number u ++ textB s.data.toList ++ markB ((u : Int) % 2 == 0) ++ tuplesB l).length ≤ 9440000 := by rw [List.length_append, List.length_append, List.length_append]; omega
  have HCB := Lib.hid (And.intro hcat hblen)
  have z0 : (bs (number u)).size ≤ 100 := by rw [bs_size]; omega
  have z1 : (bs (textB s.data.toList)).size ≤ 2011 := by rw [bs_size]; omega
  have z2 : (bs (markB ((u : Int) % 2 == 0))).size ≤ 1 := by rw [bs_size]; omega
  have z3 : (bs (tuplesB l)).size ≤ 9437206 := by rw [bs_size]; omega
  have hne0 : number u ++ textB s.data.toList ++ markB ((u : Int) % 2 == 0) ++ tuplesB l ≠ [] := by
    intro e
    have := congrArg List.length e
    rw [List.length_append, List.length_append, List.length_append, hm1] at this
    simp at this
  have HNE := Lib.hid hne0
  clear hcat hblen hne0
  have C8 := Lib.hid (fun x => rtext_any s x (by omega))
  have C9 := Lib.hid (fun x => rmark_any ((u : Int) % 2 == 0) x)
  have C10 := Lib.hid (fun x (hx : Below w.heap.size w x) => rtuples_any _ l x (HV.out.below hx) (by omega) HS.out (by omega))
  generalize bs (textB s.data.toList) = ta at *
  generalize bs (markB ((u : Int) % 2 == 0)) = tm at *
  generalize bs (tuplesB l) = tt at *
  generalize bs (number u) = tp at *
  go_wp2_with fail
  refine (C8.out _).mono ?_
  rintro e w8 ⟨rfl, b8⟩
  have H8 := Lib.hid (And.intro (H7.out.1.keep_below b8) (H7.out.2.trans (b8.mono H7.out.2.size)))
  clear b8 H7 C8
  go_wp2_with fail
  refine (C9.out _).mono ?_
  rintro e w9 ⟨rfl, hw9⟩
  subst hw9
  go_wp2_with fail
  refine (C10.out _ (B1.out.trans (H8.out.2.mono B1.out.size))).mono ?_
  rintro e w10 ⟨rfl, b10⟩
  have H10 := Lib.hid (And.intro (H8.out.1.keep_below b10) (H8.out.2.trans (b10.mono H8.out.2.size)))
  clear b10 H8 C9 C10
  go_wp2
  go_loopw [8, 78] (fun a c wr => ∃ (i : Nat) (vi : Value), c = .int .i64 i ∧ a = .string (bs (number u ++ textB s.data.toList ++ markB ((u : Int) % 2 == 0) ++ tuplesB l ++ (l.take i).flatMap both)) ∧ Hid (Kn w1.heap.size wr K vi (number u ++ textB s.data.toList ++ markB ((u : Int) % 2 == 0) ++ tuplesB l ++ (l.take i).flatMap both) ∧ Below w1.heap.size w1 wr) ∧ i ≤ l.length) (fun _ c _ => l.length - (intOf c).toNat)
  case atStart => exact ⟨0, v7, rfl, by rw [List.take_zero, List.flatMap_nil, List.append_nil, ← HCB.out.1], by exact Lib.hid ⟨by simpa using H10.out.1, H10.out.2⟩, by omega⟩
  case round =>
    obtain ⟨i, vi, rfl, rfl, HI, hi⟩ := hrel
    generalize hbase : number u ++ textB s.data.toList ++ markB ((u : Int) % 2 == 0) ++ tuplesB l = base at *
    have hbl : base.length ≤ 9440000 := HCB.out.2
    by_cases hlt : i < l.length
    · have hbw := B1.out.trans (HI.out.2.mono B1.out.size)
      obtain ⟨b, q, hix, -, -, c0, c1, c2, c3, c4, c5⟩ := (HV.out.below hbw).at hlt
      have hp := HS.out l[i] (List.getElem_mem _)
      have hpt := both_part l i hlt
      have hbo : (both l[i]).length = (three l[i].2).length + (tupleB l[i]).length := by rw [both, List.length_append]
      have G0 := Going.start HI.out.1 (.cells (cells6 l[i]).toArray 38)
      have hD : (wr.alloc (.cells (cells6 l[i]).toArray 38)).heap[wr.heap.size]? = some (.cells (cells6 l[i]).toArray 38 (0, 0)) := heap_alloc_new wr _
      have b0 := G0.step.below HI.out.1
      have C := Lib.hid (ksubject_any w1.heap.size K vi _ l[i].2 _ G0.kn (by rw [List.length_append]; omega) hp.2 (T2.out _ (HI.out.2.trans b0)))
      have H0 := Lib.hid (And.intro G0 (And.intro hD (And.intro hp hbo)))
      have hwv : (bs (base ++ (l.take i).flatMap both)).size ≤ 30000000 := by rw [bs_size, List.length_append]; omega
      have hrs : (bs (three l[i].2)).size ≤ 20000000 := by rw [bs_size]; omega
      have hrt : (bs (tupleB l[i])).size ≤ 20000000 := by rw [bs_size]; omega
      have hcc : bs (base ++ (l.take i).flatMap both) ++ (bs (three l[i].2) ++ bs (tupleB l[i])) = bs (base ++ (l.take (i + 1)).flatMap both) := by rw [Who.bs_add, Who.bs_add, both_take l i hlt, both, List.append_assoc]
      have CS := Lib.hid (fun x => rsubject_any l[i].2 x hp.2)
      have CT := Lib.hid (fun x => rtuple_any l[i] x hp.1 hp.2)
      have HCC := Lib.hid hcc
      clear hcc G0 hD b0 hbw hp hbo
      generalize bs (base ++ (l.take i).flatMap both) = wv at *
      generalize bs (three l[i].2) = rs at *
      generalize bs (tupleB l[i]) = rt at *
      have a1 : ∀ W, (Op.stringOp .add rs rt).run Tryd.prog W = .ok (.string (rs ++ rt)) W := fun W => run_string_add_sum _ _ _ (by omega)
      have a2 : ∀ W, (Op.stringOp .add wv (rs ++ rt)).run Tryd.prog W = .ok (.string (wv ++ (rs ++ rt))) W := fun W => run_string_add_sum _ _ _ (by rw [ByteArray.size_append]; omega)
      go_wp2_with fail
      refine C.out.mono ?_
      rintro e w11 ⟨rfl, va, ka, sa⟩
      have dA := H0.out.1.box sa H0.out.2.1
      have GA := H0.out.1.on ka sa
      obtain ⟨⟨d0, -⟩, ⟨d1, -⟩, ⟨d2, -⟩, ⟨d3, -⟩, ⟨d4, -⟩, ⟨d5, -⟩⟩ := at6 dA
      have C2 := Lib.hid (ktuple_any w1.heap.size K va _ l[i] w11 ka (by have := H0.out.2.2.2; rw [List.length_append, List.length_append]; omega) H0.out.2.2.1.1 H0.out.2.2.1.2 (T2.out _ (HI.out.2.trans (GA.step.below HI.out.1))))
      have HA1 := Lib.hid (And.intro GA dA)
      clear dA GA ka sa C c0 c1 c2 c3 c4 c5
      go_wp2_with fail
      refine C2.out.mono ?_
      rintro e w12 ⟨rfl, vb, kb, sb⟩
      have dB := HA1.out.1.box sb HA1.out.2
      have GB := HA1.out.1.on kb sb
      have hloads : ∀ x, Order.Fresh w12.drew x → (x.cell? ⟨wr.heap.size, 0, none⟩ = some (.string (bs l[i].1.1)) ∧ x.cell? ⟨wr.heap.size, 1, none⟩ = some (.string (bs l[i].1.2.1)) ∧ x.cell? ⟨wr.heap.size, 2, none⟩ = some (.string (bs l[i].1.2.2))) ∧ x.cell? ⟨wr.heap.size, 3, none⟩ = some (.string (bs l[i].2.1)) ∧ x.cell? ⟨wr.heap.size, 4, none⟩ = some (.string (bs l[i].2.2.1)) ∧ x.cell? ⟨wr.heap.size, 5, none⟩ = some (.string (bs l[i].2.2.2)) := fun x hx => by
        have h9 := (Below.block hx wr.heap.size (show wr.heap.size < w12.heap.size from GB.lt)).trans dB
        obtain ⟨⟨d0, -⟩, ⟨d1, -⟩, ⟨d2, -⟩, ⟨d3, -⟩, ⟨d4, -⟩, ⟨d5, -⟩⟩ := at6 h9
        exact ⟨⟨d0, d1, d2⟩, d3, d4, d5⟩
      have HL := Lib.hid hloads
      have HB := Lib.hid (And.intro GB (HI.out.2.trans (GB.step.below HI.out.1)))
      clear hloads GB dB kb sb C2 HA1 d0 d1 d2 d3 d4 d5
      go_wp2_with fail
      refine Order.region_begin (S := Order.Fresh w12.drew) (by kernel_rfl) ?_
      refine Order.reads_any (idx := [0, 1, 2, 4]) (by kernel_rfl) (Order.Fresh.refl _) (fun _ _ _ _ _ h => Order.noPanic_put h) 5 _ _ (by decide +kernel) ?_
      simp only [Order.pick, List.getElem?_toArray, List.getElem?_cons_zero, List.getElem?_cons_succ]
      repeat (first
        | (refine Order.reads_off (by rfl) ?_
           simp only [Act.put, List.setIfInBounds_toArray, List.set_cons_zero, List.set_cons_succ])
        | (apply Order.reads_on
           · rfl
           · intro x hx
             first
               | (go_simp; rfl)
               | (obtain ⟨⟨i0, i1, i2⟩, i3, i4, i5⟩ := HL.out x hx
                  go_simp; rfl)
           simp only [Act.put, List.setIfInBounds_toArray, List.set_cons_zero, List.set_cons_succ]))
      refine Order.reads_end ?_
      apply Order.acts_any (R := Order.Fresh) Order.Fresh.trans (i := 3)
      · rfl
      · decide +kernel
      · rfl
      unfold Oper.wp
      go_simp
      refine Calls.mono (CS.out _) ?_
      rintro e w13 ⟨rfl, b13⟩
      refine ⟨b13, ?_⟩
      apply Order.acts_any (R := Order.Fresh) Order.Fresh.trans (i := 5)
      · rfl
      · decide +kernel
      · rfl
      unfold Oper.wp
      go_simp
      refine Calls.mono (CT.out _) ?_
      rintro e w14 ⟨rfl, b14⟩
      refine ⟨b14, ?_⟩
      refine Order.reads_any (idx := [6, 7, 8]) (by kernel_rfl) (Order.Fresh.refl _) (fun _ _ _ _ _ h => Order.noPanic_put h) 0 _ _ (by decide +kernel) ?_
      simp only [Order.pick, List.getElem?_toArray, List.getElem?_cons_zero, List.getElem?_cons_succ]
      repeat (first
        | (refine Order.reads_off (by rfl) ?_
           simp only [Act.put, List.setIfInBounds_toArray, List.set_cons_zero, List.set_cons_succ])
        | (apply Order.reads_on
           · rfl
           · intro x hx
             first
               | (go_simp; rfl)
               | (fail
                  go_simp; rfl)
           simp only [Act.put, List.setIfInBounds_toArray, List.set_cons_zero, List.set_cons_succ]))
      refine Order.reads_end ?_
      refine wpAnyH_done (by decide +kernel) ?_ _
      refine NoPanic.normal ?_
      have b15 : Below w12.heap.size w12 w14 := ((Below.refl w12.heap.size w12).drew.trans b13).trans (b14.mono b13.size)
      have H15 := Lib.hid (And.intro (HB.out.1.kn.keep_below b15) (HB.out.2.trans (b15.mono HB.out.2.size)))
      clear b13 b14 b15 a1 a2
      go_wp2
      go_roundw
      case rel =>
        refine ⟨i + 1, vb, by go_num, by rw [HCC.out], Lib.hid ⟨?_, H15.out.2⟩, by omega⟩
        have hk := H15.out.1
        rw [List.append_assoc, List.append_assoc] at hk
        rw [both_take l i hlt, both]
        exact hk
      case measure => simp [intOf]; omega
    · have hie : i = l.length := by omega
      subst hie
      have hk := HI.out
      rw [List.take_length] at hk
      rw [List.take_length]
      have hfl : (base ++ l.flatMap both).length ≤ 30000000 := by rw [List.length_append]; omega
      have hne : base ++ l.flatMap both ≠ [] := by
        intro e
        exact HNE.out (List.append_eq_nil_iff.1 e).1
      clear HI HCB HNE hbase
      generalize base ++ l.flatMap both = full at *
      have C := Lib.hid (bytes_any w1.heap.size K vi full wr hk.1 hne (by omega))
      have HK := Lib.hid (And.intro hk (And.intro hne hfl))
      clear hk hne
      go_wp2_with fail
      refine C.out.mono ?_
      rintro e w11 ⟨g, p1, rfl, o11, b11⟩
      have hcv := conv_bytes o11
      have hg : wr.heap.size ≤ g := (o11.lt g rfl).1
      have H11 := Lib.hid (And.intro (HK.out.1.1.keep_below b11) (And.intro (HK.out.1.2.trans (b11.mono HK.out.1.2.size)) (RowB.own o11 HK.out.2.1)))
      have hft : ∀ k, Foot K vi k → k < wr.heap.size := fun k hk => (HK.out.1.1.foot k hk).2
      clear o11 b11 C
      go_wp2
      have hz1 := HK.out.1.2.size
      clear hcv
      go_loopw [106] (fun c wx => ∃ (j : Nat), c = .int .i64 j ∧ Hid (Turns (fun k => k = g) w11 wx ∧ RowB wx g full.length) ∧ j ≤ full.length) (fun c _ => full.length - (intOf c).toNat)
      case atStart => exact ⟨0, rfl, by exact Lib.hid ⟨Turns.refl _ _, H11.out.2.2⟩, by omega⟩
      case round =>
        obtain ⟨j, rfl, HJ, hj⟩ := hrel
        by_cases hjl : j < full.length
        · have hix := byte_index g full.length p1 j hjl
          obtain ⟨z, cz, fz⟩ := HJ.out.2.cell hjl
          go_wp2
          go_roundw
          case rel => exact ⟨j + 1, by go_num, Lib.hid ⟨HJ.out.1.setCell (by rfl) _, HJ.out.2.put _⟩, by omega⟩
          case measure => simp [intOf]; omega
        · have hje : j = full.length := by omega
          subst hje
          have bx := H11.out.2.1.trans (HJ.out.1.below (B := w1.heap.size) H11.out.2.1.size (fun k hk => by rw [hk]; omega))
          have kx := H11.out.1.keep HJ.out.1 (fun k hk e => by have := hft k hk; omega)
          have C2 := Lib.hid (bytes_any w1.heap.size K vi full _ kx HK.out.2.1 (by omega))
          have BX := Lib.hid bx
          clear bx kx
          go_wp2_with fail
          refine C2.out.mono ?_
          rintro e w12 ⟨g2, p2, rfl, o12, b12⟩
          have hcv2 := conv_bytes o12
          have B12 := Lib.hid (BX.out.trans (b12.mono BX.out.size))
          clear o12 b12 C2
          go_wp2
          go_ret
          exact ⟨by simp, B1.out.trans (B12.out.mono B1.out.size)⟩

set_option maxHeartbeats 8000000 in
set_option maxRecDepth 100000 in
theorem ties_neg (n : Int) (s : ByteArray) (v : Value) (l : List (L3 × L3)) (w : World) (hv : IsTups w v l) (htab : Tab w.heap.size w) (hn : n < 0) (hs : s.size ≤ 2000) (hl : l.length ≤ 60) (hw : wts l ≤ 1048576) :
    Calls Tryd.prog 3 #[.int .i64 n, .string s, v] w fun e x => e = .returned (.bool true) ∧ Below w.heap.size w x := by
  obtain ⟨ao, cc, rfl⟩ := hv.len
  obtain ⟨hsm, -, hfl⟩ := wts_small l 1048576 (Nat.le_refl _) hw
  have hbig := both_len l
  replace hbig : (l.flatMap both).length ≤ 18874368 := by omega
  have htb : (tuplesB l).length ≤ 9437206 := by
    rw [tuplesB, List.length_append]
    have := number_len (k := 19) (n := l.length) (by omega)
    omega
  have hts : (textB s.data.toList).length ≤ 2011 := by
    have := textB_len (s := s.data.toList) (by rw [← Lib.size_eq]; omega)
    rw [← Lib.size_eq] at this
    omega
  have HV := Lib.hid hv
  have HT := Lib.hid htab
  have HS := Lib.hid (show SmallAll 4000000 l from fun p hp => ⟨(hsm p hp).1.up (by omega), (hsm p hp).2.up (by omega)⟩)
  have HA := Lib.hid (awake_any w htab)
  clear hv htab hw hsm hfl
  have hpre : ([] : List UInt8).length ≤ 0 := by decide
  go_enter Tryd.func3, Tryd.ntmps3
  go_wp2_with fail
  refine HA.out.mono ?_
  rintro e w1 ⟨rfl, b1⟩
  have B1 := Lib.hid b1
  have HN := Lib.hid (new_any w1)
  clear b1 HA
  go_wp2_with fail
  refine HN.out.mono ?_
  rintro e w2 ⟨K, rfl, -, k2, b2⟩
  have T2 := Lib.hid (fun (x : World) (hx : Below w1.heap.size w1 x) => show Tab w1.heap.size x from fun y hy => HT.out y (B1.out.trans ((hx.trans hy).mono B1.out.size)))
  have H4 := Lib.hid (And.intro k2 b2)
  have HU := Lib.hid (number_bad K n w2 (.inl hn))
  clear k2 b2 HN
  go_wp2_with fail
  refine HU.out.mono ?_
  rintro e w4 ⟨rfl, hw4⟩
  subst hw4
  clear HU
  have C5 := Lib.hid (text_any w1.heap.size K _ (([] : List UInt8)) s w4 H4.out.1 (by first | omega | simp) (by omega) (T2.out w4 H4.out.2))
  go_wp2_with fail
  refine C5.out.mono ?_
  rintro e w5 ⟨rfl, v5, k5, s5⟩
  have H5 := Lib.hid (And.intro k5 (H4.out.2.trans (s5.below H4.out.1)))
  have C6 := Lib.hid (mark_any w1.heap.size K v5 _ (n.tmod 2 == 0) w5 k5 (by rw [List.length_append]; omega))
  clear k5 s5 C5 H4
  go_wp2_with fail
  refine C6.out.mono ?_
  rintro e w6 ⟨rfl, v6, k6, s6⟩
  have hm1 : (markB (n.tmod 2 == 0)).length = 1 := by cases (n.tmod 2 == 0) <;> rfl
  have b6 := H5.out.2.trans (s6.below H5.out.1)
  have H6 := Lib.hid (And.intro k6 b6)
  have C7 := Lib.hid (ktuples_any w1.heap.size K v6 _ _ l w6 k6 (HV.out.below (B1.out.trans (b6.mono B1.out.size))) (fun hne k hk => Nat.lt_of_lt_of_le (HV.out.lt hne k hk) B1.out.size) (by rw [List.length_append, List.length_append]; omega) HS.out (by omega) (T2.out w6 b6))
  clear k6 s6 b6 C6 H5
  go_wp2_with fail
  refine C7.out.mono ?_
  rintro e w7 ⟨rfl, v7, k7, s7⟩
  have H7 := Lib.hid (And.intro k7 (H6.out.2.trans (s7.below H6.out.1)))
  clear k7 s7 C7 H6
  have hcat : bs (([] : List UInt8)) ++ (bs (textB s.data.toList) ++ bs (markB (n.tmod 2 == 0)) ++ bs (tuplesB l)) = bs (([] : List UInt8) ++ textB s.data.toList ++ markB (n.tmod 2 == 0) ++ tuplesB l) := by rw [Who.bs_add, Who.bs_add, Who.bs_add]; simp
  have hblen : (([] : List UInt8) ++ textB s.data.toList ++ markB (n.tmod 2 == 0) ++ tuplesB l).length ≤ 9440000 := by rw [List.length_append, List.length_append, List.length_append]; omega
  have HCB := Lib.hid (And.intro hcat hblen)
  have z0 : (bs (([] : List UInt8))).size ≤ 100 := by rw [bs_size]; first | omega | simp
  have z1 : (bs (textB s.data.toList)).size ≤ 2011 := by rw [bs_size]; omega
  have z2 : (bs (markB (n.tmod 2 == 0))).size ≤ 1 := by rw [bs_size]; omega
  have z3 : (bs (tuplesB l)).size ≤ 9437206 := by rw [bs_size]; omega
  have hne0 : ([] : List UInt8) ++ textB s.data.toList ++ markB (n.tmod 2 == 0) ++ tuplesB l ≠ [] := by
    intro e
    have := congrArg List.length e
    rw [List.length_append, List.length_append, List.length_append, hm1] at this
    simp at this
  have HNE := Lib.hid hne0
  clear hcat hblen hne0
  have C8 := Lib.hid (fun x => rtext_any s x (by omega))
  have C9 := Lib.hid (fun x => rmark_any (n.tmod 2 == 0) x)
  have C10 := Lib.hid (fun x (hx : Below w.heap.size w x) => rtuples_any _ l x (HV.out.below hx) (by omega) HS.out (by omega))
  generalize bs (textB s.data.toList) = ta at *
  generalize bs (markB (n.tmod 2 == 0)) = tm at *
  generalize bs (tuplesB l) = tt at *
  have htp0 : bs ([] : List UInt8) = ⟨#[]⟩ := rfl
  rw [htp0] at HCB z0
  go_wp2_with fail
  refine (C8.out _).mono ?_
  rintro e w8 ⟨rfl, b8⟩
  have H8 := Lib.hid (And.intro (H7.out.1.keep_below b8) (H7.out.2.trans (b8.mono H7.out.2.size)))
  clear b8 H7 C8
  go_wp2_with fail
  refine (C9.out _).mono ?_
  rintro e w9 ⟨rfl, hw9⟩
  subst hw9
  go_wp2_with fail
  refine (C10.out _ (B1.out.trans (H8.out.2.mono B1.out.size))).mono ?_
  rintro e w10 ⟨rfl, b10⟩
  have H10 := Lib.hid (And.intro (H8.out.1.keep_below b10) (H8.out.2.trans (b10.mono H8.out.2.size)))
  clear b10 H8 C9 C10
  go_wp2
  go_loopw [8, 78] (fun a c wr => ∃ (i : Nat) (vi : Value), c = .int .i64 i ∧ a = .string (bs (([] : List UInt8) ++ textB s.data.toList ++ markB (n.tmod 2 == 0) ++ tuplesB l ++ (l.take i).flatMap both)) ∧ Hid (Kn w1.heap.size wr K vi (([] : List UInt8) ++ textB s.data.toList ++ markB (n.tmod 2 == 0) ++ tuplesB l ++ (l.take i).flatMap both) ∧ Below w1.heap.size w1 wr) ∧ i ≤ l.length) (fun _ c _ => l.length - (intOf c).toNat)
  case atStart => exact ⟨0, v7, rfl, by rw [List.take_zero, List.flatMap_nil, List.append_nil, ← HCB.out.1], by exact Lib.hid ⟨by simpa using H10.out.1, H10.out.2⟩, by omega⟩
  case round =>
    obtain ⟨i, vi, rfl, rfl, HI, hi⟩ := hrel
    generalize hbase : ([] : List UInt8) ++ textB s.data.toList ++ markB (n.tmod 2 == 0) ++ tuplesB l = base at *
    have hbl : base.length ≤ 9440000 := HCB.out.2
    by_cases hlt : i < l.length
    · have hbw := B1.out.trans (HI.out.2.mono B1.out.size)
      obtain ⟨b, q, hix, -, -, c0, c1, c2, c3, c4, c5⟩ := (HV.out.below hbw).at hlt
      have hp := HS.out l[i] (List.getElem_mem _)
      have hpt := both_part l i hlt
      have hbo : (both l[i]).length = (three l[i].2).length + (tupleB l[i]).length := by rw [both, List.length_append]
      have G0 := Going.start HI.out.1 (.cells (cells6 l[i]).toArray 38)
      have hD : (wr.alloc (.cells (cells6 l[i]).toArray 38)).heap[wr.heap.size]? = some (.cells (cells6 l[i]).toArray 38 (0, 0)) := heap_alloc_new wr _
      have b0 := G0.step.below HI.out.1
      have C := Lib.hid (ksubject_any w1.heap.size K vi _ l[i].2 _ G0.kn (by rw [List.length_append]; omega) hp.2 (T2.out _ (HI.out.2.trans b0)))
      have H0 := Lib.hid (And.intro G0 (And.intro hD (And.intro hp hbo)))
      have hwv : (bs (base ++ (l.take i).flatMap both)).size ≤ 30000000 := by rw [bs_size, List.length_append]; omega
      have hrs : (bs (three l[i].2)).size ≤ 20000000 := by rw [bs_size]; omega
      have hrt : (bs (tupleB l[i])).size ≤ 20000000 := by rw [bs_size]; omega
      have hcc : bs (base ++ (l.take i).flatMap both) ++ (bs (three l[i].2) ++ bs (tupleB l[i])) = bs (base ++ (l.take (i + 1)).flatMap both) := by rw [Who.bs_add, Who.bs_add, both_take l i hlt, both, List.append_assoc]
      have CS := Lib.hid (fun x => rsubject_any l[i].2 x hp.2)
      have CT := Lib.hid (fun x => rtuple_any l[i] x hp.1 hp.2)
      have HCC := Lib.hid hcc
      clear hcc G0 hD b0 hbw hp hbo
      generalize bs (base ++ (l.take i).flatMap both) = wv at *
      generalize bs (three l[i].2) = rs at *
      generalize bs (tupleB l[i]) = rt at *
      have a1 : ∀ W, (Op.stringOp .add rs rt).run Tryd.prog W = .ok (.string (rs ++ rt)) W := fun W => run_string_add_sum _ _ _ (by omega)
      have a2 : ∀ W, (Op.stringOp .add wv (rs ++ rt)).run Tryd.prog W = .ok (.string (wv ++ (rs ++ rt))) W := fun W => run_string_add_sum _ _ _ (by rw [ByteArray.size_append]; omega)
      go_wp2_with fail
      refine C.out.mono ?_
      rintro e w11 ⟨rfl, va, ka, sa⟩
      have dA := H0.out.1.box sa H0.out.2.1
      have GA := H0.out.1.on ka sa
      obtain ⟨⟨d0, -⟩, ⟨d1, -⟩, ⟨d2, -⟩, ⟨d3, -⟩, ⟨d4, -⟩, ⟨d5, -⟩⟩ := at6 dA
      have C2 := Lib.hid (ktuple_any w1.heap.size K va _ l[i] w11 ka (by have := H0.out.2.2.2; rw [List.length_append, List.length_append]; omega) H0.out.2.2.1.1 H0.out.2.2.1.2 (T2.out _ (HI.out.2.trans (GA.step.below HI.out.1))))
      have HA1 := Lib.hid (And.intro GA dA)
      clear dA GA ka sa C c0 c1 c2 c3 c4 c5
      go_wp2_with fail
      refine C2.out.mono ?_
      rintro e w12 ⟨rfl, vb, kb, sb⟩
      have dB := HA1.out.1.box sb HA1.out.2
      have GB := HA1.out.1.on kb sb
      have hloads : ∀ x, Order.Fresh w12.drew x → (x.cell? ⟨wr.heap.size, 0, none⟩ = some (.string (bs l[i].1.1)) ∧ x.cell? ⟨wr.heap.size, 1, none⟩ = some (.string (bs l[i].1.2.1)) ∧ x.cell? ⟨wr.heap.size, 2, none⟩ = some (.string (bs l[i].1.2.2))) ∧ x.cell? ⟨wr.heap.size, 3, none⟩ = some (.string (bs l[i].2.1)) ∧ x.cell? ⟨wr.heap.size, 4, none⟩ = some (.string (bs l[i].2.2.1)) ∧ x.cell? ⟨wr.heap.size, 5, none⟩ = some (.string (bs l[i].2.2.2)) := fun x hx => by
        have h9 := (Below.block hx wr.heap.size (show wr.heap.size < w12.heap.size from GB.lt)).trans dB
        obtain ⟨⟨d0, -⟩, ⟨d1, -⟩, ⟨d2, -⟩, ⟨d3, -⟩, ⟨d4, -⟩, ⟨d5, -⟩⟩ := at6 h9
        exact ⟨⟨d0, d1, d2⟩, d3, d4, d5⟩
      have HL := Lib.hid hloads
      have HB := Lib.hid (And.intro GB (HI.out.2.trans (GB.step.below HI.out.1)))
      clear hloads GB dB kb sb C2 HA1 d0 d1 d2 d3 d4 d5
      go_wp2_with fail
      refine Order.region_begin (S := Order.Fresh w12.drew) (by kernel_rfl) ?_
      refine Order.reads_any (idx := [0, 1, 2, 4]) (by kernel_rfl) (Order.Fresh.refl _) (fun _ _ _ _ _ h => Order.noPanic_put h) 5 _ _ (by decide +kernel) ?_
      simp only [Order.pick, List.getElem?_toArray, List.getElem?_cons_zero, List.getElem?_cons_succ]
      repeat (first
        | (refine Order.reads_off (by rfl) ?_
           simp only [Act.put, List.setIfInBounds_toArray, List.set_cons_zero, List.set_cons_succ])
        | (apply Order.reads_on
           · rfl
           · intro x hx
             first
               | (go_simp; rfl)
               | (obtain ⟨⟨i0, i1, i2⟩, i3, i4, i5⟩ := HL.out x hx
                  go_simp; rfl)
           simp only [Act.put, List.setIfInBounds_toArray, List.set_cons_zero, List.set_cons_succ]))
      refine Order.reads_end ?_
      apply Order.acts_any (R := Order.Fresh) Order.Fresh.trans (i := 3)
      · rfl
      · decide +kernel
      · rfl
      unfold Oper.wp
      go_simp
      refine Calls.mono (CS.out _) ?_
      rintro e w13 ⟨rfl, b13⟩
      refine ⟨b13, ?_⟩
      apply Order.acts_any (R := Order.Fresh) Order.Fresh.trans (i := 5)
      · rfl
      · decide +kernel
      · rfl
      unfold Oper.wp
      go_simp
      refine Calls.mono (CT.out _) ?_
      rintro e w14 ⟨rfl, b14⟩
      refine ⟨b14, ?_⟩
      refine Order.reads_any (idx := [6, 7, 8]) (by kernel_rfl) (Order.Fresh.refl _) (fun _ _ _ _ _ h => Order.noPanic_put h) 0 _ _ (by decide +kernel) ?_
      simp only [Order.pick, List.getElem?_toArray, List.getElem?_cons_zero, List.getElem?_cons_succ]
      repeat (first
        | (refine Order.reads_off (by rfl) ?_
           simp only [Act.put, List.setIfInBounds_toArray, List.set_cons_zero, List.set_cons_succ])
        | (apply Order.reads_on
           · rfl
           · intro x hx
             first
               | (go_simp; rfl)
               | (fail
                  go_simp; rfl)
           simp only [Act.put, List.setIfInBounds_toArray, List.set_cons_zero, List.set_cons_succ]))
      refine Order.reads_end ?_
      refine wpAnyH_done (by decide +kernel) ?_ _
      refine NoPanic.normal ?_
      have b15 : Below w12.heap.size w12 w14 := ((Below.refl w12.heap.size w12).drew.trans b13).trans (b14.mono b13.size)
      have H15 := Lib.hid (And.intro (HB.out.1.kn.keep_below b15) (HB.out.2.trans (b15.mono HB.out.2.size)))
      clear b13 b14 b15 a1 a2
      go_wp2
      go_roundw
      case rel =>
        refine ⟨i + 1, vb, by go_num, by rw [HCC.out], Lib.hid ⟨?_, H15.out.2⟩, by omega⟩
        have hk := H15.out.1
        rw [List.append_assoc, List.append_assoc] at hk
        rw [both_take l i hlt, both]
        exact hk
      case measure => simp [intOf]; omega
    · have hie : i = l.length := by omega
      subst hie
      have hk := HI.out
      rw [List.take_length] at hk
      rw [List.take_length]
      have hfl : (base ++ l.flatMap both).length ≤ 30000000 := by rw [List.length_append]; omega
      have hne : base ++ l.flatMap both ≠ [] := by
        intro e
        exact HNE.out (List.append_eq_nil_iff.1 e).1
      clear HI HCB HNE hbase
      generalize base ++ l.flatMap both = full at *
      have C := Lib.hid (bytes_any w1.heap.size K vi full wr hk.1 hne (by omega))
      have HK := Lib.hid (And.intro hk (And.intro hne hfl))
      clear hk hne
      go_wp2_with fail
      refine C.out.mono ?_
      rintro e w11 ⟨g, p1, rfl, o11, b11⟩
      have hcv := conv_bytes o11
      have hg : wr.heap.size ≤ g := (o11.lt g rfl).1
      have H11 := Lib.hid (And.intro (HK.out.1.1.keep_below b11) (And.intro (HK.out.1.2.trans (b11.mono HK.out.1.2.size)) (RowB.own o11 HK.out.2.1)))
      have hft : ∀ k, Foot K vi k → k < wr.heap.size := fun k hk => (HK.out.1.1.foot k hk).2
      clear o11 b11 C
      go_wp2
      have hz1 := HK.out.1.2.size
      clear hcv
      go_loopw [106] (fun c wx => ∃ (j : Nat), c = .int .i64 j ∧ Hid (Turns (fun k => k = g) w11 wx ∧ RowB wx g full.length) ∧ j ≤ full.length) (fun c _ => full.length - (intOf c).toNat)
      case atStart => exact ⟨0, rfl, by exact Lib.hid ⟨Turns.refl _ _, H11.out.2.2⟩, by omega⟩
      case round =>
        obtain ⟨j, rfl, HJ, hj⟩ := hrel
        by_cases hjl : j < full.length
        · have hix := byte_index g full.length p1 j hjl
          obtain ⟨z, cz, fz⟩ := HJ.out.2.cell hjl
          go_wp2
          go_roundw
          case rel => exact ⟨j + 1, by go_num, Lib.hid ⟨HJ.out.1.setCell (by rfl) _, HJ.out.2.put _⟩, by omega⟩
          case measure => simp [intOf]; omega
        · have hje : j = full.length := by omega
          subst hje
          have bx := H11.out.2.1.trans (HJ.out.1.below (B := w1.heap.size) H11.out.2.1.size (fun k hk => by rw [hk]; omega))
          have kx := H11.out.1.keep HJ.out.1 (fun k hk e => by have := hft k hk; omega)
          have C2 := Lib.hid (bytes_any w1.heap.size K vi full _ kx HK.out.2.1 (by omega))
          have BX := Lib.hid bx
          clear bx kx
          go_wp2_with fail
          refine C2.out.mono ?_
          rintro e w12 ⟨g2, p2, rfl, o12, b12⟩
          have hcv2 := conv_bytes o12
          have B12 := Lib.hid (BX.out.trans (b12.mono BX.out.size))
          clear o12 b12 C2
          go_wp2
          go_ret
          exact ⟨by simp, B1.out.trans (B12.out.mono B1.out.size)⟩

set_option maxHeartbeats 8000000 in
set_option maxRecDepth 100000 in
theorem ties_far (n : Int) (s : ByteArray) (v : Value) (l : List (L3 × L3)) (w : World) (hv : IsTups w v l) (htab : Tab w.heap.size w) (hn : 0 ≤ n ∧ 9007199254740992 < n) (hs : s.size ≤ 2000) (hl : l.length ≤ 60) (hw : wts l ≤ 1048576) :
    Calls Tryd.prog 3 #[.int .i64 n, .string s, v] w fun e x => e = .returned (.bool true) ∧ Below w.heap.size w x := by
  obtain ⟨ao, cc, rfl⟩ := hv.len
  obtain ⟨hsm, -, hfl⟩ := wts_small l 1048576 (Nat.le_refl _) hw
  have hbig := both_len l
  replace hbig : (l.flatMap both).length ≤ 18874368 := by omega
  have htb : (tuplesB l).length ≤ 9437206 := by
    rw [tuplesB, List.length_append]
    have := number_len (k := 19) (n := l.length) (by omega)
    omega
  have hts : (textB s.data.toList).length ≤ 2011 := by
    have := textB_len (s := s.data.toList) (by rw [← Lib.size_eq]; omega)
    rw [← Lib.size_eq] at this
    omega
  have HV := Lib.hid hv
  have HT := Lib.hid htab
  have HS := Lib.hid (show SmallAll 4000000 l from fun p hp => ⟨(hsm p hp).1.up (by omega), (hsm p hp).2.up (by omega)⟩)
  have HA := Lib.hid (awake_any w htab)
  clear hv htab hw hsm hfl
  have hpre : ([] : List UInt8).length ≤ 0 := by decide
  go_enter Tryd.func3, Tryd.ntmps3
  go_wp2_with fail
  refine HA.out.mono ?_
  rintro e w1 ⟨rfl, b1⟩
  have B1 := Lib.hid b1
  have HN := Lib.hid (new_any w1)
  clear b1 HA
  go_wp2_with fail
  refine HN.out.mono ?_
  rintro e w2 ⟨K, rfl, -, k2, b2⟩
  have T2 := Lib.hid (fun (x : World) (hx : Below w1.heap.size w1 x) => show Tab w1.heap.size x from fun y hy => HT.out y (B1.out.trans ((hx.trans hy).mono B1.out.size)))
  have H4 := Lib.hid (And.intro k2 b2)
  have HU := Lib.hid (number_bad K n w2 (.inr hn.2))
  clear k2 b2 HN
  go_wp2_with fail
  refine HU.out.mono ?_
  rintro e w4 ⟨rfl, hw4⟩
  subst hw4
  clear HU
  have C5 := Lib.hid (text_any w1.heap.size K _ (([] : List UInt8)) s w4 H4.out.1 (by first | omega | simp) (by omega) (T2.out w4 H4.out.2))
  go_wp2_with fail
  clear hn
  rename 9007199254740992 < n => hc
  clear hc
  rename 9007199254740992 < n => hc
  clear hc
  refine C5.out.mono ?_
  rintro e w5 ⟨rfl, v5, k5, s5⟩
  have H5 := Lib.hid (And.intro k5 (H4.out.2.trans (s5.below H4.out.1)))
  have C6 := Lib.hid (mark_any w1.heap.size K v5 _ (n.tmod 2 == 0) w5 k5 (by rw [List.length_append]; omega))
  clear k5 s5 C5 H4
  go_wp2_with fail
  refine C6.out.mono ?_
  rintro e w6 ⟨rfl, v6, k6, s6⟩
  have hm1 : (markB (n.tmod 2 == 0)).length = 1 := by cases (n.tmod 2 == 0) <;> rfl
  have b6 := H5.out.2.trans (s6.below H5.out.1)
  have H6 := Lib.hid (And.intro k6 b6)
  have C7 := Lib.hid (ktuples_any w1.heap.size K v6 _ _ l w6 k6 (HV.out.below (B1.out.trans (b6.mono B1.out.size))) (fun hne k hk => Nat.lt_of_lt_of_le (HV.out.lt hne k hk) B1.out.size) (by rw [List.length_append, List.length_append]; omega) HS.out (by omega) (T2.out w6 b6))
  clear k6 s6 b6 C6 H5
  go_wp2_with fail
  refine C7.out.mono ?_
  rintro e w7 ⟨rfl, v7, k7, s7⟩
  have H7 := Lib.hid (And.intro k7 (H6.out.2.trans (s7.below H6.out.1)))
  clear k7 s7 C7 H6
  have hcat : bs (([] : List UInt8)) ++ (bs (textB s.data.toList) ++ bs (markB (n.tmod 2 == 0)) ++ bs (tuplesB l)) = bs (([] : List UInt8) ++ textB s.data.toList ++ markB (n.tmod 2 == 0) ++ tuplesB l) := by rw [Who.bs_add, Who.bs_add, Who.bs_add]; simp
  have hblen : (([] : List UInt8) ++ textB s.data.toList ++ markB (n.tmod 2 == 0) ++ tuplesB l).length ≤ 9440000 := by rw [List.length_append, List.length_append, List.length_append]; omega
  have HCB := Lib.hid (And.intro hcat hblen)
  have z0 : (bs (([] : List UInt8))).size ≤ 100 := by rw [bs_size]; first | omega | simp
  have z1 : (bs (textB s.data.toList)).size ≤ 2011 := by rw [bs_size]; omega
  have z2 : (bs (markB (n.tmod 2 == 0))).size ≤ 1 := by rw [bs_size]; omega
  have z3 : (bs (tuplesB l)).size ≤ 9437206 := by rw [bs_size]; omega
  have hne0 : ([] : List UInt8) ++ textB s.data.toList ++ markB (n.tmod 2 == 0) ++ tuplesB l ≠ [] := by
    intro e
    have := congrArg List.length e
    rw [List.length_append, List.length_append, List.length_append, hm1] at this
    simp at this
  have HNE := Lib.hid hne0
  clear hcat hblen hne0
  have C8 := Lib.hid (fun x => rtext_any s x (by omega))
  have C9 := Lib.hid (fun x => rmark_any (n.tmod 2 == 0) x)
  have C10 := Lib.hid (fun x (hx : Below w.heap.size w x) => rtuples_any _ l x (HV.out.below hx) (by omega) HS.out (by omega))
  generalize bs (textB s.data.toList) = ta at *
  generalize bs (markB (n.tmod 2 == 0)) = tm at *
  generalize bs (tuplesB l) = tt at *
  have htp0 : bs ([] : List UInt8) = ⟨#[]⟩ := rfl
  rw [htp0] at HCB z0
  go_wp2_with fail
  refine (C8.out _).mono ?_
  rintro e w8 ⟨rfl, b8⟩
  have H8 := Lib.hid (And.intro (H7.out.1.keep_below b8) (H7.out.2.trans (b8.mono H7.out.2.size)))
  clear b8 H7 C8
  go_wp2_with fail
  refine (C9.out _).mono ?_
  rintro e w9 ⟨rfl, hw9⟩
  subst hw9
  go_wp2_with fail
  refine (C10.out _ (B1.out.trans (H8.out.2.mono B1.out.size))).mono ?_
  rintro e w10 ⟨rfl, b10⟩
  have H10 := Lib.hid (And.intro (H8.out.1.keep_below b10) (H8.out.2.trans (b10.mono H8.out.2.size)))
  clear b10 H8 C9 C10
  go_wp2
  go_loopw [8, 78] (fun a c wr => ∃ (i : Nat) (vi : Value), c = .int .i64 i ∧ a = .string (bs (([] : List UInt8) ++ textB s.data.toList ++ markB (n.tmod 2 == 0) ++ tuplesB l ++ (l.take i).flatMap both)) ∧ Hid (Kn w1.heap.size wr K vi (([] : List UInt8) ++ textB s.data.toList ++ markB (n.tmod 2 == 0) ++ tuplesB l ++ (l.take i).flatMap both) ∧ Below w1.heap.size w1 wr) ∧ i ≤ l.length) (fun _ c _ => l.length - (intOf c).toNat)
  case atStart => exact ⟨0, v7, rfl, by rw [List.take_zero, List.flatMap_nil, List.append_nil, ← HCB.out.1], by exact Lib.hid ⟨by simpa using H10.out.1, H10.out.2⟩, by omega⟩
  case round =>
    obtain ⟨i, vi, rfl, rfl, HI, hi⟩ := hrel
    generalize hbase : ([] : List UInt8) ++ textB s.data.toList ++ markB (n.tmod 2 == 0) ++ tuplesB l = base at *
    have hbl : base.length ≤ 9440000 := HCB.out.2
    by_cases hlt : i < l.length
    · have hbw := B1.out.trans (HI.out.2.mono B1.out.size)
      obtain ⟨b, q, hix, -, -, c0, c1, c2, c3, c4, c5⟩ := (HV.out.below hbw).at hlt
      have hp := HS.out l[i] (List.getElem_mem _)
      have hpt := both_part l i hlt
      have hbo : (both l[i]).length = (three l[i].2).length + (tupleB l[i]).length := by rw [both, List.length_append]
      have G0 := Going.start HI.out.1 (.cells (cells6 l[i]).toArray 38)
      have hD : (wr.alloc (.cells (cells6 l[i]).toArray 38)).heap[wr.heap.size]? = some (.cells (cells6 l[i]).toArray 38 (0, 0)) := heap_alloc_new wr _
      have b0 := G0.step.below HI.out.1
      have C := Lib.hid (ksubject_any w1.heap.size K vi _ l[i].2 _ G0.kn (by rw [List.length_append]; omega) hp.2 (T2.out _ (HI.out.2.trans b0)))
      have H0 := Lib.hid (And.intro G0 (And.intro hD (And.intro hp hbo)))
      have hwv : (bs (base ++ (l.take i).flatMap both)).size ≤ 30000000 := by rw [bs_size, List.length_append]; omega
      have hrs : (bs (three l[i].2)).size ≤ 20000000 := by rw [bs_size]; omega
      have hrt : (bs (tupleB l[i])).size ≤ 20000000 := by rw [bs_size]; omega
      have hcc : bs (base ++ (l.take i).flatMap both) ++ (bs (three l[i].2) ++ bs (tupleB l[i])) = bs (base ++ (l.take (i + 1)).flatMap both) := by rw [Who.bs_add, Who.bs_add, both_take l i hlt, both, List.append_assoc]
      have CS := Lib.hid (fun x => rsubject_any l[i].2 x hp.2)
      have CT := Lib.hid (fun x => rtuple_any l[i] x hp.1 hp.2)
      have HCC := Lib.hid hcc
      clear hcc G0 hD b0 hbw hp hbo
      generalize bs (base ++ (l.take i).flatMap both) = wv at *
      generalize bs (three l[i].2) = rs at *
      generalize bs (tupleB l[i]) = rt at *
      have a1 : ∀ W, (Op.stringOp .add rs rt).run Tryd.prog W = .ok (.string (rs ++ rt)) W := fun W => run_string_add_sum _ _ _ (by omega)
      have a2 : ∀ W, (Op.stringOp .add wv (rs ++ rt)).run Tryd.prog W = .ok (.string (wv ++ (rs ++ rt))) W := fun W => run_string_add_sum _ _ _ (by rw [ByteArray.size_append]; omega)
      go_wp2_with fail
      refine C.out.mono ?_
      rintro e w11 ⟨rfl, va, ka, sa⟩
      have dA := H0.out.1.box sa H0.out.2.1
      have GA := H0.out.1.on ka sa
      obtain ⟨⟨d0, -⟩, ⟨d1, -⟩, ⟨d2, -⟩, ⟨d3, -⟩, ⟨d4, -⟩, ⟨d5, -⟩⟩ := at6 dA
      have C2 := Lib.hid (ktuple_any w1.heap.size K va _ l[i] w11 ka (by have := H0.out.2.2.2; rw [List.length_append, List.length_append]; omega) H0.out.2.2.1.1 H0.out.2.2.1.2 (T2.out _ (HI.out.2.trans (GA.step.below HI.out.1))))
      have HA1 := Lib.hid (And.intro GA dA)
      clear dA GA ka sa C c0 c1 c2 c3 c4 c5
      go_wp2_with fail
      refine C2.out.mono ?_
      rintro e w12 ⟨rfl, vb, kb, sb⟩
      have dB := HA1.out.1.box sb HA1.out.2
      have GB := HA1.out.1.on kb sb
      have hloads : ∀ x, Order.Fresh w12.drew x → (x.cell? ⟨wr.heap.size, 0, none⟩ = some (.string (bs l[i].1.1)) ∧ x.cell? ⟨wr.heap.size, 1, none⟩ = some (.string (bs l[i].1.2.1)) ∧ x.cell? ⟨wr.heap.size, 2, none⟩ = some (.string (bs l[i].1.2.2))) ∧ x.cell? ⟨wr.heap.size, 3, none⟩ = some (.string (bs l[i].2.1)) ∧ x.cell? ⟨wr.heap.size, 4, none⟩ = some (.string (bs l[i].2.2.1)) ∧ x.cell? ⟨wr.heap.size, 5, none⟩ = some (.string (bs l[i].2.2.2)) := fun x hx => by
        have h9 := (Below.block hx wr.heap.size (show wr.heap.size < w12.heap.size from GB.lt)).trans dB
        obtain ⟨⟨d0, -⟩, ⟨d1, -⟩, ⟨d2, -⟩, ⟨d3, -⟩, ⟨d4, -⟩, ⟨d5, -⟩⟩ := at6 h9
        exact ⟨⟨d0, d1, d2⟩, d3, d4, d5⟩
      have HL := Lib.hid hloads
      have HB := Lib.hid (And.intro GB (HI.out.2.trans (GB.step.below HI.out.1)))
      clear hloads GB dB kb sb C2 HA1 d0 d1 d2 d3 d4 d5
      go_wp2_with fail
      refine Order.region_begin (S := Order.Fresh w12.drew) (by kernel_rfl) ?_
      refine Order.reads_any (idx := [0, 1, 2, 4]) (by kernel_rfl) (Order.Fresh.refl _) (fun _ _ _ _ _ h => Order.noPanic_put h) 5 _ _ (by decide +kernel) ?_
      simp only [Order.pick, List.getElem?_toArray, List.getElem?_cons_zero, List.getElem?_cons_succ]
      repeat (first
        | (refine Order.reads_off (by rfl) ?_
           simp only [Act.put, List.setIfInBounds_toArray, List.set_cons_zero, List.set_cons_succ])
        | (apply Order.reads_on
           · rfl
           · intro x hx
             first
               | (go_simp; rfl)
               | (obtain ⟨⟨i0, i1, i2⟩, i3, i4, i5⟩ := HL.out x hx
                  go_simp; rfl)
           simp only [Act.put, List.setIfInBounds_toArray, List.set_cons_zero, List.set_cons_succ]))
      refine Order.reads_end ?_
      apply Order.acts_any (R := Order.Fresh) Order.Fresh.trans (i := 3)
      · rfl
      · decide +kernel
      · rfl
      unfold Oper.wp
      go_simp
      refine Calls.mono (CS.out _) ?_
      rintro e w13 ⟨rfl, b13⟩
      refine ⟨b13, ?_⟩
      apply Order.acts_any (R := Order.Fresh) Order.Fresh.trans (i := 5)
      · rfl
      · decide +kernel
      · rfl
      unfold Oper.wp
      go_simp
      refine Calls.mono (CT.out _) ?_
      rintro e w14 ⟨rfl, b14⟩
      refine ⟨b14, ?_⟩
      refine Order.reads_any (idx := [6, 7, 8]) (by kernel_rfl) (Order.Fresh.refl _) (fun _ _ _ _ _ h => Order.noPanic_put h) 0 _ _ (by decide +kernel) ?_
      simp only [Order.pick, List.getElem?_toArray, List.getElem?_cons_zero, List.getElem?_cons_succ]
      repeat (first
        | (refine Order.reads_off (by rfl) ?_
           simp only [Act.put, List.setIfInBounds_toArray, List.set_cons_zero, List.set_cons_succ])
        | (apply Order.reads_on
           · rfl
           · intro x hx
             first
               | (go_simp; rfl)
               | (fail
                  go_simp; rfl)
           simp only [Act.put, List.setIfInBounds_toArray, List.set_cons_zero, List.set_cons_succ]))
      refine Order.reads_end ?_
      refine wpAnyH_done (by decide +kernel) ?_ _
      refine NoPanic.normal ?_
      have b15 : Below w12.heap.size w12 w14 := ((Below.refl w12.heap.size w12).drew.trans b13).trans (b14.mono b13.size)
      have H15 := Lib.hid (And.intro (HB.out.1.kn.keep_below b15) (HB.out.2.trans (b15.mono HB.out.2.size)))
      clear b13 b14 b15 a1 a2
      go_wp2
      go_roundw
      case rel =>
        refine ⟨i + 1, vb, by go_num, by rw [HCC.out], Lib.hid ⟨?_, H15.out.2⟩, by omega⟩
        have hk := H15.out.1
        rw [List.append_assoc, List.append_assoc] at hk
        rw [both_take l i hlt, both]
        exact hk
      case measure => simp [intOf]; omega
    · have hie : i = l.length := by omega
      subst hie
      have hk := HI.out
      rw [List.take_length] at hk
      rw [List.take_length]
      have hfl : (base ++ l.flatMap both).length ≤ 30000000 := by rw [List.length_append]; omega
      have hne : base ++ l.flatMap both ≠ [] := by
        intro e
        exact HNE.out (List.append_eq_nil_iff.1 e).1
      clear HI HCB HNE hbase
      generalize base ++ l.flatMap both = full at *
      have C := Lib.hid (bytes_any w1.heap.size K vi full wr hk.1 hne (by omega))
      have HK := Lib.hid (And.intro hk (And.intro hne hfl))
      clear hk hne
      go_wp2_with fail
      refine C.out.mono ?_
      rintro e w11 ⟨g, p1, rfl, o11, b11⟩
      have hcv := conv_bytes o11
      have hg : wr.heap.size ≤ g := (o11.lt g rfl).1
      have H11 := Lib.hid (And.intro (HK.out.1.1.keep_below b11) (And.intro (HK.out.1.2.trans (b11.mono HK.out.1.2.size)) (RowB.own o11 HK.out.2.1)))
      have hft : ∀ k, Foot K vi k → k < wr.heap.size := fun k hk => (HK.out.1.1.foot k hk).2
      clear o11 b11 C
      go_wp2
      have hz1 := HK.out.1.2.size
      clear hcv
      go_loopw [106] (fun c wx => ∃ (j : Nat), c = .int .i64 j ∧ Hid (Turns (fun k => k = g) w11 wx ∧ RowB wx g full.length) ∧ j ≤ full.length) (fun c _ => full.length - (intOf c).toNat)
      case atStart => exact ⟨0, rfl, by exact Lib.hid ⟨Turns.refl _ _, H11.out.2.2⟩, by omega⟩
      case round =>
        obtain ⟨j, rfl, HJ, hj⟩ := hrel
        by_cases hjl : j < full.length
        · have hix := byte_index g full.length p1 j hjl
          obtain ⟨z, cz, fz⟩ := HJ.out.2.cell hjl
          go_wp2
          go_roundw
          case rel => exact ⟨j + 1, by go_num, Lib.hid ⟨HJ.out.1.setCell (by rfl) _, HJ.out.2.put _⟩, by omega⟩
          case measure => simp [intOf]; omega
        · have hje : j = full.length := by omega
          subst hje
          have bx := H11.out.2.1.trans (HJ.out.1.below (B := w1.heap.size) H11.out.2.1.size (fun k hk => by rw [hk]; omega))
          have kx := H11.out.1.keep HJ.out.1 (fun k hk e => by have := hft k hk; omega)
          have C2 := Lib.hid (bytes_any w1.heap.size K vi full _ kx HK.out.2.1 (by omega))
          have BX := Lib.hid bx
          clear bx kx
          go_wp2_with fail
          refine C2.out.mono ?_
          rintro e w12 ⟨g2, p2, rfl, o12, b12⟩
          have hcv2 := conv_bytes o12
          have B12 := Lib.hid (BX.out.trans (b12.mono BX.out.size))
          clear o12 b12 C2
          go_wp2
          go_ret
          exact ⟨by simp, B1.out.trans (B12.out.mono B1.out.size)⟩

theorem ties_walk (n : Int) (s : ByteArray) (v : Value) (l : List (L3 × L3)) (w : World) (_hs : s.size ≤ maxLen) (hv : IsTups w v l) (hw : wts l ≤ 1048576) (htab : Tab w.heap.size w) :
    Calls Tryd.prog 3 #[.int .i64 n, .string s, v] w fun e x => e = .returned (.bool true) ∧ Below w.heap.size w x := by
  by_cases h : s.size ≤ 2000 ∧ l.length ≤ 60
  · by_cases h1 : n < 0
    · exact ties_neg n s v l w hv htab h1 h.1 h.2 hw
    · by_cases h2 : 9007199254740992 < n
      · exact ties_far n s v l w hv htab ⟨by omega, h2⟩ h.1 h.2 hw
      · obtain ⟨u, rfl⟩ : ∃ u : Nat, n = u := ⟨n.toNat, by omega⟩
        exact ties_good u s v l w hv htab (by omega) h.1 h.2 hw
  · exact ties_long n s v l w hv htab (by omega)
end Knot
end Go.Proofs.YtoeaapomjjclaaaDoor
