/-
  The statement KnotGoes at every number, text and list of tuples of bounded size. What is asked: the library's table of powers of ten.
-/
import Derived.Test.YtoeaapomjjclaaaDoorKnAwake
import Derived.Test.YtoeaapomjjclaaaDoorInF
import Derived.Test.YtoeaapomjjclaaaDoorSame
import Derived.Test.YtoeaapomjjclaaaDoorOrder
import Derived.Test.YtoeaapomjjclaaaDoorArgs
import Derived.Test.YtoeaapomjjclaaaDoorBondGR
namespace Go.Proofs.YtoeaapomjjclaaaDoor
open Go.RowKit Go.Sort
namespace Knot
open Who (bs bs_list bs_size bs_self eq_of_list Held)
open Bond (L3 tupV)

theorem good_small {p : L3 × L3} (h : Bond.goodB p.1 p.2 = true) : Small 96 p.1 ∧ Small 96 p.2 ∧ Who.subjB p.2.1 p.2.2.1 p.2.2.2 = true ∧ Who.kind p.2.1 p.2.2.1 p.2.2.2 ≠ 0 := by
  obtain ⟨h1, h2⟩ := Bond.good_iff.1 h
  have a := Who.kind_len (t := p.1.1) (i := p.1.2.1) (r := p.1.2.2) (by rw [show Who.kind p.1.1 p.1.2.1 p.1.2.2 = 2 from h1]; decide)
  have b := Who.kind_len (t := p.2.1) (i := p.2.2.1) (r := p.2.2.2) h2
  refine ⟨⟨by omega, by omega, by omega⟩, ⟨by omega, by omega, by omega⟩, ?_, h2⟩
  rw [Who.subj_eq]
  have h3 : Who.kind p.2.1 p.2.2.1 p.2.2.2 ≠ 0 := h2
  simpa using h3
theorem Small.mono {a b : Nat} {y : L3} (h : Small a y) (hab : a ≤ b) : Small b y := ⟨Nat.le_trans h.1 hab, Nat.le_trans h.2.1 hab, Nat.le_trans h.2.2 hab⟩
def subs (l : List (L3 × L3)) : List UInt8 := l.flatMap fun p => three p.2
theorem subs_len : ∀ l : List (L3 × L3), (subs l).length ≤ (l.flatMap tupleB).length
  | [] => Nat.le_refl _
  | p :: l => by
    have := subs_len l
    rw [subs] at this ⊢
    rw [List.flatMap_cons, List.flatMap_cons, List.length_append, List.length_append, tupleB, List.length_append]
    omega
theorem subs_take (l : List (L3 × L3)) (k : Nat) (hk : k < l.length) : subs (l.take (k + 1)) = subs (l.take k) ++ three l[k].2 := by
  rw [subs, List.take_succ_eq_append_getElem hk, List.flatMap_append, List.flatMap_cons, List.flatMap_nil, List.append_nil]
  rfl
theorem subs_drop (l : List (L3 × L3)) (k : Nat) (hk : k < l.length) (z : List UInt8) : subs (l.drop k) ++ z = three l[k].2 ++ (subs (l.drop (k + 1)) ++ z) := by
  rw [subs, List.drop_eq_getElem_cons hk, List.flatMap_cons, List.append_assoc]
  rfl
theorem subs_part (l : List (L3 × L3)) (k : Nat) (hk : k < l.length) : (subs (l.take k)).length + (three l[k].2).length ≤ (subs l).length := by
  have h := congrArg List.length (subs_take l k hk)
  rw [List.length_append] at h
  have h2 : (subs l).length = (subs (l.take (k + 1))).length + (subs (l.drop (k + 1))).length := by
    rw [← List.length_append, subs, subs, subs, ← List.flatMap_append, List.take_append_drop]
  omega
/-- All that the statement ties. -/
def goesB (u : Nat) (l : List (L3 × L3)) (s : List UInt8) : List UInt8 := markB true ++ (number u ++ (subs l ++ (tuplesB l ++ textB s)))

set_option maxHeartbeats 4000000 in
set_option maxRecDepth 100000 in
theorem goes_long (n : Int) (s : ByteArray) (v : Value) (l : List (L3 × L3)) (w : World) (hv : IsTups w v l) (htab : Tab w.heap.size w) (h : n < 0 ∨ 9007199254740992 < n ∨ 2000 < s.size ∨ 60 < l.length) :
    Calls Tryd.prog 5 #[.int .i64 n, .string s, v] w fun e x => e = .returned (.bool true) ∧ Below w.heap.size w x := by
  have HA := Lib.hid (awake_any w htab)
  have HT := Lib.hid htab
  obtain ⟨ao, cc, rfl⟩ := hv.len
  have h' : n < 0 ∨ (0 ≤ n ∧ 9007199254740992 < n) ∨ (0 ≤ n ∧ n ≤ 9007199254740992 ∧ 2000 < s.size) ∨ (0 ≤ n ∧ n ≤ 9007199254740992 ∧ s.size ≤ 2000 ∧ 60 < l.length) := by omega
  clear hv htab h
  rcases h' with h | h | h | h
  all_goals
    go_enter Tryd.func5, Tryd.ntmps5
    go_wp2_with fail
    refine HA.out.mono ?_
    rintro e w1 ⟨rfl, b1⟩
    have HA2 := Lib.hid (awake_any w1 (tab_up HT.out b1))
    have B1 := Lib.hid b1
    clear b1
    go_wp2_with fail
    refine HA2.out.mono ?_
    rintro e w2 ⟨rfl, b2⟩
    go_wp2
    go_ret
    exact ⟨rfl, B1.out.trans (b2.mono B1.out.size)⟩

/-- What keeps all but an untying. -/
def But (I : Nat) (x y : World) : Prop := Turns (At I) x y
theorem But.refl (I : Nat) (x : World) : But I x x := Turns.refl _ _
theorem But.trans {I : Nat} {x y z : World} (h : But I x y) (k : But I y z) : But I x z := Turns.trans h k fun _ _ h => h

set_option maxHeartbeats 8000000 in
set_option maxRecDepth 100000 in
theorem goes_short (u : Nat) (s : ByteArray) (v : Value) (l : List (L3 × L3)) (w : World) (hv : IsTups w v l) (htab : Tab w.heap.size w) (hu : u ≤ 9007199254740992) (hs : s.size ≤ 2000) (hl : l.length ≤ 60) (hw : wts l ≤ 1048576) :
    Calls Tryd.prog 5 #[.int .i64 u, .string s, v] w fun e x => e = .returned (.bool true) ∧ Below w.heap.size w x := by
  obtain ⟨ao, cc, rfl⟩ := hv.len
  obtain ⟨hsm, -, hfl⟩ := wts_small l 1048576 (Nat.le_refl _) hw
  have hsl := subs_len l
  have hbig : (subs l).length ≤ 9437184 := by omega
  have htb : (tuplesB l).length ≤ 9437206 := by
    rw [tuplesB, List.length_append]
    have := number_len (k := 19) (n := l.length) (by omega)
    omega
  clear hsl hfl
  have hnl := len_digits (n := u) (by omega)
  have hml : (markB true ++ number u : List UInt8).length ≤ 22 := by rw [List.length_append, number, List.length_append]; simp [markB]; omega
  have HG := Lib.hid (fun (p : L3 × L3) (hp : p ∈ l) (x : World) => by
    have c := Bond.goodR_any (bs p.1.1) (bs p.1.2.1) (bs p.1.2.2) (bs p.2.1) (bs p.2.2.1) (bs p.2.2.2) x (by rw [bs_size]; have := (hsm p hp).1.1; omega) (by rw [bs_size]; have := (hsm p hp).1.2.1; omega) (by rw [bs_size]; have := (hsm p hp).1.2.2; omega) (by rw [bs_size]; have := (hsm p hp).2.1; omega) (by rw [bs_size]; have := (hsm p hp).2.2.1; omega) (by rw [bs_size]; have := (hsm p hp).2.2.2; omega)
    simp only [bs_list] at c
    show Calls Tryd.prog 32 #[agg6 p] x fun e y => e = .returned (.bool (Bond.goodB p.1 p.2)) ∧ Below x.heap.size x y
    exact c)
  have HV := Lib.hid hv
  have HT := Lib.hid htab
  have HS := Lib.hid hsm
  have HA := Lib.hid (awake_any w htab)
  clear hv htab hw hsm
  go_enter Tryd.func5, Tryd.ntmps5
  go_wp2_with fail
  refine HA.out.mono ?_
  rintro e w1 ⟨rfl, b1⟩
  have B1 := Lib.hid b1
  have HN := Lib.hid (new_any w1)
  clear b1 HA
  go_wp2_with fail
  refine HN.out.mono ?_
  rintro e w2 ⟨K, rfl, -, k2, b2⟩
  have T2 := Lib.hid (fun (x : World) (hx : Below w1.heap.size w1 x) => show Tab w1.heap.size x from fun y hy => HT.out y (B1.out.trans ((hx.trans hy).mono B1.out.size)))
  have H2 := Lib.hid (And.intro k2 b2)
  have HM := Lib.hid (mark_any w1.heap.size K _ _ true w2 k2 (by simp))
  clear k2 b2 HN
  go_wp2_with fail
  refine HM.out.mono ?_
  rintro e w3 ⟨rfl, v3, k3, s3⟩
  have b3 := H2.out.2.trans (s3.below H2.out.1)
  have H3 := Lib.hid (And.intro k3 b3)
  have HU := Lib.hid (number_good w1.heap.size K u v3 _ w3 k3 hu (by simp [markB]) (T2.out w3 b3))
  clear k3 s3 b3 H2 HM
  go_wp2_with fail
  refine HU.out.mono ?_
  rintro e w4 ⟨rfl, v4, k4, s4⟩
  rw [List.nil_append] at k4
  have H4 := Lib.hid (And.intro k4 (H3.out.2.trans (s4.below H3.out.1)))
  clear k4 s4 H3 HU
  go_wp2
  go_loopw [42] (fun c wr => ∃ (i : Nat) (vi : Value), c = .int .i64 i ∧ Hid (Kn w1.heap.size wr K vi (markB true ++ number u ++ subs (l.take i)) ∧ Below w1.heap.size w1 wr ∧ ∀ p ∈ l.take i, Bond.goodB p.1 p.2 = true) ∧ i ≤ l.length) (fun c _ => l.length - (intOf c).toNat)
  case atStart => exact ⟨0, v4, rfl, by exact Lib.hid ⟨by simpa [subs] using H4.out.1, H4.out.2, by simp⟩, by omega⟩
  case round =>
    obtain ⟨i, vi, rfl, HI, hi⟩ := hrel
    by_cases hlt : i < l.length
    · have hbw := B1.out.trans (HI.out.2.1.mono B1.out.size)
      obtain ⟨b, q, hix, -, -, c0, c1, c2, c3, c4, c5⟩ := (HV.out.below hbw).at hlt
      have hD : (wr.alloc (.cells (cells6 l[i]).toArray 38)).heap[wr.heap.size]? = some (.cells (cells6 l[i]).toArray 38 (0, 0)) := heap_alloc_new wr _
      have bD : Below wr.heap.size wr (wr.alloc (.cells (cells6 l[i]).toArray 38)) := (Below.refl _ _).alloc (Nat.le_refl _) _
      have G := HG.out l[i] (List.getElem_mem _) (wr.alloc (.cells (cells6 l[i]).toArray 38))
      cases hg : Bond.goodB l[i].1 l[i].2 with
      | false =>
        rw [hg] at G
        have HGo := Lib.hid (And.intro G (hbw.trans (bD.mono hbw.size)))
        clear G hD bD hbw hg
        go_wp2_with fail
        refine HGo.out.1.mono ?_
        rintro e w5 ⟨rfl, b5⟩
        go_wp2
        go_ret
        exact ⟨rfl, HGo.out.2.trans (b5.mono HGo.out.2.size)⟩
      | true =>
        rw [hg] at G
        have HGo := Lib.hid (And.intro G (And.intro hD (And.intro bD hg)))
        clear G hD bD hg
        go_wp2_with fail
        refine HGo.out.1.mono ?_
        rintro e w5 ⟨rfl, b5⟩
        have hD5 := (b5.block wr.heap.size (by simp)).trans HGo.out.2.1
        obtain ⟨-, -, -, ⟨e3, -⟩, ⟨e4, -⟩, ⟨e5, -⟩⟩ := at6 hD5
        have bb := HGo.out.2.2.1.trans (b5.mono HGo.out.2.2.1.size)
        have k5 := HI.out.1.keep_below bb
        have bw5 := HI.out.2.1.trans (bb.mono HI.out.2.1.size)
        have hpl := subs_part l i hlt
        have C := Lib.hid (ksubject_any w1.heap.size K vi _ l[i].2 w5 k5 (by rw [List.length_append]; omega) ((HS.out l[i] (List.getElem_mem _)).2.mono (by omega)) (T2.out w5 bw5))
        have B5 := Lib.hid (And.intro k5 bw5)
        clear hD5 bb k5 bw5 b5 c0 c1 c2 c3 c4 c5
        go_wp2_with fail
        refine C.out.mono ?_
        rintro e w6 ⟨rfl, v6, k6, s6⟩
        have H6 := Lib.hid (And.intro k6 (B5.out.2.trans (s6.below B5.out.1)))
        clear k6 s6 C B5 e3 e4 e5 hix
        go_wp2
        go_roundw
        case rel =>
          refine ⟨i + 1, v6, by go_num, Lib.hid ⟨?_, H6.out.2, ?_⟩, by omega⟩
          · rw [subs_take l i hlt, ← List.append_assoc]
            exact H6.out.1
          · intro p hp
            rw [List.take_succ_eq_append_getElem hlt, List.mem_append, List.mem_singleton] at hp
            rcases hp with hp | rfl
            · exact HI.out.2.2 p hp
            · exact HGo.out.2.2.2
        case measure => simp [intOf]; omega
    · have hie : i = l.length := by omega
      subst hie
      have hgo := HI.out
      rw [List.take_length] at hgo
      have HG2 := Lib.hid hgo
      clear hgo HI HG
      have hbw := B1.out.trans (HG2.out.2.1.mono B1.out.size)
      have C7 := Lib.hid (ktuples_any w1.heap.size K vi _ _ l wr HG2.out.1 (HV.out.below hbw) (fun hne k hk => Nat.lt_of_lt_of_le (HV.out.lt hne k hk) B1.out.size) (by rw [List.length_append]; omega) (fun p hp => ⟨(HS.out p hp).1.mono (by omega), (HS.out p hp).2.mono (by omega)⟩) (by omega) (T2.out wr HG2.out.2.1))
      clear hbw
      go_wp2_with fail
      refine C7.out.mono ?_
      rintro e w7 ⟨rfl, v7, k7, s7⟩
      have b7 := HG2.out.2.1.trans (s7.below HG2.out.1)
      have H7 := Lib.hid (And.intro k7 b7)
      have C8 := Lib.hid (text_any w1.heap.size K v7 _ s w7 k7 (by rw [List.length_append, List.length_append]; omega) (by omega) (T2.out w7 b7))
      clear k7 s7 b7 C7
      go_wp2_with fail
      refine C8.out.mono ?_
      rintro e w8 ⟨rfl, v8, k8, s8⟩
      have b8 := H7.out.2.trans (s8.below H7.out.1)
      have hfull : markB true ++ number u ++ subs l ++ tuplesB l ++ textB s.data.toList = goesB u l s.data.toList := by simp [goesB]
      have hfl : (goesB u l s.data.toList).length ≤ 20000000 := by
        have h9 := textB_len (s := s.data.toList) (by rw [← Lib.size_eq]; omega)
        rw [← Lib.size_eq] at h9
        rw [← hfull, List.length_append, List.length_append, List.length_append]
        omega
      rw [hfull] at k8
      have HF := Lib.hid (And.intro b8 hfl)
      have C9 := Lib.hid (bytes_any w1.heap.size K v8 _ w8 k8 (by simp [goesB, markB]) (by omega))
      clear k8 s8 b8 C8 H7 hfl hfull
      go_wp2_with fail
      refine C9.out.mono ?_
      rintro e w9 ⟨g9, p9, rfl, o9, b9⟩
      have hcv := conv_bytes o9
      have C10 := Lib.hid (open_any (.slice (some ⟨g9, 0, none⟩) (goesB u l s.data.toList).length p9) (bs (goesB u l s.data.toList)) w9 (fun W hW => by rw [hW]; exact hcv))
      have B9 := Lib.hid (HF.out.1.trans (b9.mono HF.out.1.size))
      clear o9 b9 hcv C9
      go_wp2_with fail
      refine C10.out.mono ?_
      rintro e w10 ⟨rfl, i10, b10⟩
      have B10 := Lib.hid (B9.out.trans (b10.mono B9.out.size))
      have hIB : w1.heap.size ≤ w9.heap.size := B9.out.size
      generalize w9.heap.size = I at *
      have C11 := Lib.hid (mark_goes I _ true (number u ++ (subs l ++ (tuplesB l ++ textB s.data.toList))) false w10 i10 (by rw [bs_list]; rfl))
      clear i10 b10 C10
      go_wp2_with fail
      refine C11.out.mono ?_
      rintro e w11 ⟨rfl, i11, t11⟩
      have B11 := Lib.hid (B10.out.trans (t11.below B10.out.size (fun k hk => by rw [hk]; exact hIB)))
      have C12 := Lib.hid (number_goes I u _ (subs l ++ (tuplesB l ++ textB s.data.toList)) false u w11 i11 (by rw [bs_list]) (by omega) (Int.le_refl _))
      clear i11 t11 C11
      go_wp2_with fail
      refine C12.out.mono ?_
      rintro e w12 ⟨rfl, i12, t12⟩
      have H12 := Lib.hid (And.intro i12 (B11.out.trans (t12.below B11.out.size (fun k hk => by rw [hk]; exact hIB))))
      clear i12 t12 C12
      go_wp2
      go_loopw [79] (fun c wr => ∃ (j : Nat), c = .int .i64 j ∧ Hid (Inn wr I (bs (subs (l.drop j) ++ (tuplesB l ++ textB s.data.toList))) false ∧ Below w1.heap.size w1 wr) ∧ j ≤ l.length) (fun c _ => l.length - (intOf c).toNat)
      case atStart => exact ⟨0, rfl, by exact Lib.hid ⟨by simpa using H12.out.1, H12.out.2⟩, by omega⟩
      case round =>
        obtain ⟨j, rfl, HJ, hj⟩ := hrel
        by_cases hjl : j < l.length
        · have hbw := B1.out.trans (HJ.out.2.mono B1.out.size)
          obtain ⟨b, q, hix, -, -, c0, c1, c2, c3, c4, c5⟩ := (HV.out.below hbw).at hjl
          obtain ⟨gs1, gs2, gsub, gkind⟩ := good_small (HG2.out.2.2 l[j] (List.getElem_mem _))
          have hD : (wr.alloc (.cells (cells6 l[j]).toArray 38)).heap[wr.heap.size]? = some (.cells (cells6 l[j]).toArray 38 (0, 0)) := heap_alloc_new wr _
          have bD : Below wr.heap.size wr (wr.alloc (.cells (cells6 l[j]).toArray 38)) := (Below.refl _ _).alloc (Nat.le_refl _) _
          have hIl := HJ.out.1.lt
          have hne : wr.heap.size ≠ I := by omega
          have hloads : ∀ x, But I (wr.alloc (.cells (cells6 l[j]).toArray 38)).drew x → x.cell? ⟨wr.heap.size, 3, none⟩ = some (.string (bs l[j].2.1)) ∧ x.cell? ⟨wr.heap.size, 4, none⟩ = some (.string (bs l[j].2.2.1)) ∧ x.cell? ⟨wr.heap.size, 5, none⟩ = some (.string (bs l[j].2.2.2)) := fun x hx => by
            have h9 := hx.heap (k := wr.heap.size) hD hne
            obtain ⟨-, -, -, ⟨e3, -⟩, ⟨e4, -⟩, ⟨e5, -⟩⟩ := at6 h9
            exact ⟨e3, e4, e5⟩
          have hin : Inn (wr.alloc (.cells (cells6 l[j]).toArray 38)).drew I (bs (subs (l.drop j) ++ (tuplesB l ++ textB s.data.toList))) false := HJ.out.1.below (bD.drew)
          have C := Lib.hid (subject_goes I _ l[j].2 (subs (l.drop (j + 1)) ++ (tuplesB l ++ textB s.data.toList)) _ hin (by rw [bs_list, subs_drop l j hjl]) gs2.1 gs2.2.1 gs2.2.2 gsub)
          have CK := Lib.hid (fun x => by
            have c := Who.kindR_any (bs l[j].2.1) (bs l[j].2.2.1) (bs l[j].2.2.2) x (by rw [bs_size]; have := gs2.1; omega) (by rw [bs_size]; have := gs2.2.1; omega) (by rw [bs_size]; have := gs2.2.2; omega)
            simp only [bs_list] at c
            exact c)
          have hk0 : (((Who.kind l[j].2.1 l[j].2.2.1 l[j].2.2.2 : Nat) : Int) == 0) = false := by simpa using gkind
          have HL := Lib.hid (And.intro hloads (And.intro hbw bD))
          clear hD hin hbw bD hloads gs1 gs2 gsub gkind
          go_wp2_with fail
          refine Order.region_begin (S := But I (wr.alloc (.cells (cells6 l[j]).toArray 38)).drew) (by kernel_rfl) ?_
          refine Order.reads_any (idx := [0, 2, 3]) (by kernel_rfl) (But.refl _ _) (fun _ _ _ _ _ h => Order.noPanic_put h) 8 _ _ (by decide +kernel) ?_
          simp only [Order.pick, List.getElem?_toArray, List.getElem?_cons_zero, List.getElem?_cons_succ]
          repeat (first
            | (refine Order.reads_off (by rfl) ?_
               simp only [Act.put, List.setIfInBounds_toArray, List.set_cons_zero, List.set_cons_succ])
            | (apply Order.reads_on
               · rfl
               · intro x hx
                 first
                   | (go_simp; rfl)
                   | (have i0 := HL.out.1 x hx
                      go_simp; rfl)
               simp only [Act.put, List.setIfInBounds_toArray, List.set_cons_zero, List.set_cons_succ]
               try simp only [hk0]))
          refine Order.reads_end ?_
          apply Order.acts_any (R := But I) But.trans (i := 1)
          · rfl
          · decide +kernel
          · rfl
          unfold Oper.wp
          go_simp
          refine Calls.mono C.out ?_
          rintro e w13 ⟨rfl, i13, t13⟩
          refine ⟨t13, ?_⟩
          have B13 := Lib.hid ((HJ.out.2.trans ((HL.out.2.2.drew).mono HJ.out.2.size)).trans (t13.below (B := w1.heap.size) (by have := HL.out.2.2.size; have := HJ.out.2.size; simp at *; omega) (fun k hk => by rw [hk]; exact hIB)))
          have hl13 : ∀ x, But I w13 x → x.cell? ⟨wr.heap.size, 3, none⟩ = some (.string (bs l[j].2.1)) ∧ x.cell? ⟨wr.heap.size, 4, none⟩ = some (.string (bs l[j].2.2.1)) ∧ x.cell? ⟨wr.heap.size, 5, none⟩ = some (.string (bs l[j].2.2.2)) := fun x hx => HL.out.1 x (But.trans t13 hx)
          have HL3 := Lib.hid hl13
          have H13 := Lib.hid i13
          clear C t13 hl13 i13
          refine Order.reads_any (idx := [4, 5, 6, 7]) (by kernel_rfl) (But.refl _ _) (fun _ _ _ _ _ h => Order.noPanic_put h) 3 _ _ (by decide +kernel) ?_
          simp only [Order.pick, List.getElem?_toArray, List.getElem?_cons_zero, List.getElem?_cons_succ]
          repeat (first
            | (refine Order.reads_off (by rfl) ?_
               simp only [Act.put, List.setIfInBounds_toArray, List.set_cons_zero, List.set_cons_succ])
            | (apply Order.reads_on
               · rfl
               · intro x hx
                 first
                   | (go_simp; rfl)
                   | (have i0 := HL3.out x hx
                      go_simp; rfl)
               simp only [Act.put, List.setIfInBounds_toArray, List.set_cons_zero, List.set_cons_succ]
               try simp only [hk0]))
          refine Order.reads_end ?_
          apply Order.acts_any (R := But I) But.trans (i := 8)
          · rfl
          · decide +kernel
          · rfl
          unfold Oper.wp
          go_simp
          refine Calls.mono (CK.out _) ?_
          rintro e w14 ⟨rfl, b14⟩
          refine ⟨Turns.of_below b14, ?_⟩
          refine Order.reads_any (idx := [9, 10]) (by kernel_rfl) (But.refl _ _) (fun _ _ _ _ _ h => Order.noPanic_put h) 0 _ _ (by decide +kernel) ?_
          simp only [Order.pick, List.getElem?_toArray, List.getElem?_cons_zero, List.getElem?_cons_succ]
          repeat (first
            | (refine Order.reads_off (by rfl) ?_
               simp only [Act.put, List.setIfInBounds_toArray, List.set_cons_zero, List.set_cons_succ])
            | (apply Order.reads_on
               · rfl
               · intro x hx
                 first
                   | (go_simp; rfl)
                   | (fail
                      go_simp; rfl)
               simp only [Act.put, List.setIfInBounds_toArray, List.set_cons_zero, List.set_cons_succ]
               try simp only [hk0]))
          refine Order.reads_end ?_
          refine wpAnyH_done (by decide +kernel) ?_ _
          refine NoPanic.normal ?_
          have H14 := Lib.hid (And.intro (H13.out.below b14) (B13.out.trans (b14.mono B13.out.size)))
          clear b14
          go_wp2
          go_roundw
          case rel => exact ⟨j + 1, by go_num, Lib.hid H14.out, by omega⟩
          case measure => simp [intOf]; omega
        · have hje : j = l.length := by omega
          subst hje
          have hin := HJ.out.1
          rw [List.drop_length] at hin
          have hgood : GoodAll l := fun p hp => ⟨HG2.out.2.2 p hp, (good_small (HG2.out.2.2 p hp)).1, (good_small (HG2.out.2.2 p hp)).2.1⟩
          have C := Lib.hid (tuples_goes I _ l (textB s.data.toList) l.length wr hin (by rw [bs_list]; rfl) hgood (by omega) (Int.le_refl _))
          have hz := HJ.out.2.size
          clear hin hgood
          go_wp2_with fail
          refine C.out.mono ?_
          rintro e w13 ⟨v13, rfl, o13, i13, t13⟩
          have b13 := HJ.out.2.trans (t13.below HJ.out.2.size (fun k hk => by rw [hk]; exact hIB))
          obtain ⟨a13, p13, rfl⟩ := own_slice6 o13
          have C2 := Lib.hid (same_any _ _ l w13 (tups_own o13) (HV.out.below (B1.out.trans (b13.mono B1.out.size))) (by omega))
          have H13 := Lib.hid (And.intro i13 b13)
          clear o13 i13 t13 b13 C
          go_wp2_with fail
          refine C2.out.mono ?_
          rintro e w14 ⟨rfl, b14⟩
          have i14 := H13.out.1.below b14
          have C3 := Lib.hid (text_goes I _ s [] false s.size w14 i14 (by rw [bs_list, List.append_nil]) (by omega) (Int.le_refl _))
          have B14 := Lib.hid (H13.out.2.trans (b14.mono H13.out.2.size))
          clear b14 i14 C2 H13
          go_wp2_with fail
          refine C3.out.mono ?_
          rintro e w15 ⟨rfl, i15, t15⟩
          have B15 := Lib.hid (B14.out.trans (t15.below B14.out.size (fun k hk => by rw [hk]; exact hIB)))
          have C4 := Lib.hid (left_any I _ false w15 i15)
          have C5 := Lib.hid (end_any I false w15 i15)
          have hz0 : (bs ([] : List UInt8)).size = 0 := rfl
          clear i15 t15 C3
          rw [hz0] at C4
          go_wp2_with fail
          refine C4.out.mono ?_
          rintro e w16 ⟨rfl, rfl⟩
          go_wp2_with fail
          refine C5.out.mono ?_
          rintro e w17 ⟨rfl, rfl⟩
          go_wp2
          go_ret
          exact ⟨by simp, B1.out.trans (B15.out.mono B1.out.size)⟩

theorem goes_walk (n : Int) (s : ByteArray) (v : Value) (l : List (L3 × L3)) (w : World) (_hs : s.size ≤ maxLen) (hv : IsTups w v l) (hw : wts l ≤ 1048576) (htab : Tab w.heap.size w) :
    Calls Tryd.prog 5 #[.int .i64 n, .string s, v] w fun e x => e = .returned (.bool true) ∧ Below w.heap.size w x := by
  by_cases h : 0 ≤ n ∧ n ≤ 9007199254740992 ∧ s.size ≤ 2000 ∧ l.length ≤ 60
  · obtain ⟨u, rfl⟩ : ∃ u : Nat, n = u := ⟨n.toNat, by omega⟩
    exact goes_short u s v l w hv htab (by omega) h.2.2.1 h.2.2.2 hw
  · exact goes_long n s v l w hv htab (by omega)
end Knot
end Go.Proofs.YtoeaapomjjclaaaDoor
