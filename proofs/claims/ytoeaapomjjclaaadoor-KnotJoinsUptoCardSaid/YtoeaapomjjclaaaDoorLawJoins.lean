/-
  The statement KnotJoins at every two lists of tuples, and every text, of bounded size. What is asked: the library's table of powers of ten.
-/
import Derived.Test.YtoeaapomjjclaaaDoorKnAwake
import Derived.Test.YtoeaapomjjclaaaDoorInF
import Derived.Test.YtoeaapomjjclaaaDoorSame
import Derived.Test.YtoeaapomjjclaaaDoorRefK
import Derived.Test.YtoeaapomjjclaaaDoorArgs
import Derived.Test.YtoeaapomjjclaaaDoorBondGR
import Derived.Test.YtoeaapomjjclaaaDoorOrder
namespace Go.Proofs.YtoeaapomjjclaaaDoor
open Go.RowKit Go.Sort
namespace Knot
open Who (bs bs_list bs_size bs_self eq_of_list Held)
open Bond (L3 tupV)

theorem Kn.less {B B2 K : Nat} {w : World} {v : Value} {l : List UInt8} (h : Kn B w K v l) (hB : B2 ≤ B) : Kn B2 w K v l := by
  refine ⟨Nat.le_trans hB h.1, h.2.1, h.2.2.1, ?_⟩
  rcases h.2.2.2 with hn | ⟨g, cap, cur, hv, hb, r⟩
  · exact .inl hn
  · exact .inr ⟨g, cap, cur, hv, Nat.le_trans hB hb, r⟩
theorem small_good {p : L3 × L3} (h : Bond.goodB p.1 p.2 = true) : Small 96 p.1 ∧ Small 96 p.2 := by
  obtain ⟨h1, h2⟩ := Bond.good_iff.1 h
  have a := Who.kind_len (t := p.1.1) (i := p.1.2.1) (r := p.1.2.2) (by rw [show Who.kind p.1.1 p.1.2.1 p.1.2.2 = 2 from h1]; decide)
  have b := Who.kind_len (t := p.2.1) (i := p.2.2.1) (r := p.2.2.2) h2
  exact ⟨⟨by omega, by omega, by omega⟩, ⟨by omega, by omega, by omega⟩⟩
theorem Small.wide {a b : Nat} {y : L3} (h : Small a y) (hab : a ≤ b) : Small b y := ⟨Nat.le_trans h.1 hab, Nat.le_trans h.2.1 hab, Nat.le_trans h.2.2 hab⟩

/-- Three knots that share nothing. -/
structure Three (B : Nat) (W : World) (Ka : Nat) (va : Value) (la : List UInt8) (Kb : Nat) (vb : Value) (lb : List UInt8) (Kc : Nat) (vc : Value) (lc : List UInt8) (x : World) : Prop where
  ka : Kn B x Ka va la
  kb : Kn B x Kb vb lb
  kc : Kn B x Kc vc lc
  ab : ∀ k, Foot Kb vb k → ¬ Foot Ka va k
  ac : ∀ k, Foot Kc vc k → ¬ Foot Ka va k
  bc : ∀ k, Foot Kc vc k → ¬ Foot Kb vb k
  below : Below B W x
section
variable {B : Nat} {W x y : World} {Ka Kb Kc : Nat} {va vb vc v' : Value} {la lb lc l' : List UInt8}
theorem turned {F G : Nat → Prop} (h : ∀ k, F k → ¬ G k) : ∀ k, G k → ¬ F k := fun k h1 h2 => h k h2 h1
theorem Three.a (h : Three B W Ka va la Kb vb lb Kc vc lc x) (hk : Kn B y Ka v' l') (hs : KStep Ka va v' x y) : Three B W Ka v' l' Kb vb lb Kc vc lc y :=
  ⟨hk, h.kb.keep hs.turns h.ab, h.kc.keep hs.turns h.ac, apart_step h.kb hs h.ab, apart_step h.kc hs h.ac, h.bc, h.below.trans (hs.below h.ka)⟩
theorem Three.b (h : Three B W Ka va la Kb vb lb Kc vc lc x) (hk : Kn B y Kb v' l') (hs : KStep Kb vb v' x y) : Three B W Ka va la Kb v' l' Kc vc lc y :=
  ⟨h.ka.keep hs.turns (turned h.ab), hk, h.kc.keep hs.turns h.bc, turned (apart_step h.ka hs (turned h.ab)), h.ac, apart_step h.kc hs h.bc, h.below.trans (hs.below h.kb)⟩
theorem Three.c (h : Three B W Ka va la Kb vb lb Kc vc lc x) (hk : Kn B y Kc v' l') (hs : KStep Kc vc v' x y) : Three B W Ka va la Kb vb lb Kc v' l' y :=
  ⟨h.ka.keep hs.turns (turned h.ac), h.kb.keep hs.turns (turned h.bc), hk, h.ab, turned (apart_step h.ka hs (turned h.ac)), turned (apart_step h.kb hs (turned h.bc)), h.below.trans (hs.below h.kc)⟩
theorem Three.on {F : Nat → Prop} (h : Three B W Ka va la Kb vb lb Kc vc lc x) (ht : Turns F x y) (hF : ∀ k, F k → B ≤ k) (ha : ∀ k, Foot Ka va k → ¬ F k) (hb : ∀ k, Foot Kb vb k → ¬ F k) (hc : ∀ k, Foot Kc vc k → ¬ F k) : Three B W Ka va la Kb vb lb Kc vc lc y :=
  ⟨h.ka.keep ht ha, h.kb.keep ht hb, h.kc.keep ht hc, h.ab, h.ac, h.bc, h.below.trans (ht.below h.ka.base hF)⟩
theorem Three.free (h : Three B W Ka va la Kb vb lb Kc vc lc x) (hb : Below x.heap.size x y) : Three B W Ka va la Kb vb lb Kc vc lc y :=
  h.on (F := fun _ => False) (Turns.of_below hb) (fun _ h => h.elim) (fun _ _ h => h) (fun _ _ h => h) (fun _ _ h => h)
end
/-- What keeps all but an untying. -/
def Save (I : Nat) (x y : World) : Prop := Turns (At I) x y
theorem Save.refl (I : Nat) (x : World) : Save I x x := Turns.refl _ _
theorem Save.trans {I : Nat} {x y z : World} (h : Save I x y) (k : Save I y z) : Save I x z := Turns.trans h k fun _ _ h => h

set_option maxHeartbeats 4000000 in
set_option maxRecDepth 100000 in
theorem joins_long (v u : Value) (l m : List (L3 × L3)) (s : ByteArray) (w : World) (hv : IsTups w v l) (hu : IsTups w u m) (htab : Tab w.heap.size w) (h : 40 < l.length ∨ 40 < m.length ∨ 1000 < s.size) :
    Calls Tryd.prog 7 #[v, u, .string s] w fun e x => e = .returned (.bool true) ∧ Below w.heap.size w x := by
  have HA := Lib.hid (awake_any w htab)
  have HT := Lib.hid htab
  obtain ⟨ao, cc, rfl⟩ := hv.len
  obtain ⟨bo, dd, rfl⟩ := hu.len
  have h' : 40 < l.length ∨ (l.length ≤ 40 ∧ 40 < m.length) ∨ (l.length ≤ 40 ∧ m.length ≤ 40 ∧ 1000 < s.size) := by omega
  clear hv hu htab h
  rcases h' with h | h | h
  all_goals
    go_enter Tryd.func7, Tryd.ntmps7
    go_wp2_with fail
    refine HA.out.mono ?_
    rintro e w1 ⟨rfl, b1⟩
    have HA2 := Lib.hid (awake_any w1 (tab_up HT.out b1))
    have B1 := Lib.hid b1
    clear b1
    go_wp2_with fail
    refine HA2.out.mono ?_
    rintro e w2 ⟨rfl, b2⟩
    go_wp2
    go_ret
    exact ⟨rfl, B1.out.trans (b2.mono B1.out.size)⟩

set_option maxHeartbeats 16000000 in
set_option maxRecDepth 100000 in
theorem joins_short (v u : Value) (l m : List (L3 × L3)) (s : ByteArray) (w : World) (hv : IsTups w v l) (hu : IsTups w u m) (htab : Tab w.heap.size w) (hl : l.length ≤ 40) (hm : m.length ≤ 40) (hs : s.size ≤ 1000) (hw : wts l ≤ 1048576) (hw2 : wts m ≤ 1048576) :
    Calls Tryd.prog 7 #[v, u, .string s] w fun e x => e = .returned (.bool true) ∧ Below w.heap.size w x := by
  obtain ⟨ao, cc, rfl⟩ := hv.len
  obtain ⟨bo, dd, rfl⟩ := hu.len
  obtain ⟨hsm, -, hfl⟩ := wts_small l 1048576 (Nat.le_refl _) hw
  obtain ⟨hsm2, -, hfl2⟩ := wts_small m 1048576 (Nat.le_refl _) hw2
  have htb : (tuplesB l).length ≤ 9437206 := by
    rw [tuplesB, List.length_append]
    have := number_len (k := 19) (n := l.length) (by omega)
    omega
  have htb2 : (tuplesB m).length ≤ 9437206 := by
    rw [tuplesB, List.length_append]
    have := number_len (k := 19) (n := m.length) (by omega)
    omega
  have hts : (textB s.data.toList).length ≤ 1011 := by
    have := textB_len (s := s.data.toList) (by rw [← Lib.size_eq]; omega)
    rw [← Lib.size_eq] at this
    omega
  have HG := Lib.hid (fun (p : L3 × L3) (hp : p ∈ l) (x : World) => by
    have c := Bond.goodR_any (bs p.1.1) (bs p.1.2.1) (bs p.1.2.2) (bs p.2.1) (bs p.2.2.1) (bs p.2.2.2) x (by rw [bs_size]; have := (hsm p hp).1.1; omega) (by rw [bs_size]; have := (hsm p hp).1.2.1; omega) (by rw [bs_size]; have := (hsm p hp).1.2.2; omega) (by rw [bs_size]; have := (hsm p hp).2.1; omega) (by rw [bs_size]; have := (hsm p hp).2.2.1; omega) (by rw [bs_size]; have := (hsm p hp).2.2.2; omega)
    simp only [bs_list] at c
    show Calls Tryd.prog 32 #[agg6 p] x fun e y => e = .returned (.bool (Bond.goodB p.1 p.2)) ∧ Below x.heap.size x y
    exact c)
  have HV := Lib.hid (And.intro hv hu)
  have HT := Lib.hid htab
  have HS := Lib.hid (show SmallAll 4000000 l ∧ SmallAll 4000000 m from ⟨fun p hp => ⟨(hsm p hp).1.wide (by omega), (hsm p hp).2.wide (by omega)⟩, fun p hp => ⟨(hsm2 p hp).1.wide (by omega), (hsm2 p hp).2.wide (by omega)⟩⟩)
  have HA := Lib.hid (awake_any w htab)
  clear hv hu htab hw hw2 hsm hsm2 hfl hfl2
  go_enter Tryd.func7, Tryd.ntmps7
  go_wp2_with fail
  refine HA.out.mono ?_
  rintro e w1 ⟨rfl, b1⟩
  have B1 := Lib.hid b1
  clear b1 HA
  go_wp2
  go_loopw [34] (fun c wr => ∃ (i : Nat), c = .int .i64 i ∧ Hid (Below w.heap.size w wr ∧ ∀ p ∈ l.take i, Bond.goodB p.1 p.2 = true) ∧ i ≤ l.length) (fun c _ => l.length - (intOf c).toNat)
  case atStart => exact ⟨0, rfl, by exact Lib.hid ⟨B1.out, by simp⟩, by omega⟩
  case round =>
    obtain ⟨i, rfl, HI, hi⟩ := hrel
    by_cases hlt : i < l.length
    · obtain ⟨b, q, hix, -, -, c0, c1, c2, c3, c4, c5⟩ := (HV.out.1.below HI.out.1).at hlt
      have bD : Below wr.heap.size wr (wr.alloc (.cells (cells6 l[i]).toArray 38)) := (Below.refl _ _).alloc (Nat.le_refl _) _
      have G := HG.out l[i] (List.getElem_mem _) (wr.alloc (.cells (cells6 l[i]).toArray 38))
      have HB := Lib.hid (HI.out.1.trans (bD.mono HI.out.1.size))
      cases hg : Bond.goodB l[i].1 l[i].2 with
      | false =>
        rw [hg] at G
        have HGo := Lib.hid G
        clear G bD hg
        go_wp2_with fail
        refine HGo.out.mono ?_
        rintro e w5 ⟨rfl, b5⟩
        go_wp2
        go_ret
        exact ⟨rfl, HB.out.trans (b5.mono HB.out.size)⟩
      | true =>
        rw [hg] at G
        have HGo := Lib.hid (And.intro G hg)
        clear G bD hg
        go_wp2_with fail
        refine HGo.out.1.mono ?_
        rintro e w5 ⟨rfl, b5⟩
        have H5 := Lib.hid (HB.out.trans (b5.mono HB.out.size))
        clear b5 c0 c1 c2 c3 c4 c5 hix
        go_wp2
        go_roundw
        case rel =>
          refine ⟨i + 1, by go_num, Lib.hid ⟨H5.out, ?_⟩, by omega⟩
          intro p hp
          rw [List.take_succ_eq_append_getElem hlt, List.mem_append, List.mem_singleton] at hp
          rcases hp with hp | rfl
          · exact HI.out.2 p hp
          · exact HGo.out.2
        case measure => simp [intOf]; omega
    · have hie : i = l.length := by omega
      subst hie
      have hgo := HI.out
      rw [List.take_length] at hgo
      have H1 := Lib.hid hgo
      clear hgo HI HG B1
      have HN := Lib.hid (new_any wr)
      go_wp2_with fail
      refine HN.out.mono ?_
      rintro e w2 ⟨Ka, rfl, hKa, ka2, b2⟩
      have HN2 := Lib.hid (new_any w2)
      have K2 := Lib.hid (And.intro hKa (And.intro ka2 b2))
      clear hKa ka2 b2 HN
      go_wp2_with fail
      refine HN2.out.mono ?_
      rintro e w3 ⟨Kb, rfl, hKb, kb3, b3⟩
      have HN3 := Lib.hid (new_any w3)
      have K3 := Lib.hid (And.intro hKb (And.intro kb3 b3))
      clear hKb kb3 b3 HN2
      go_wp2_with fail
      refine HN3.out.mono ?_
      rintro e w4 ⟨Kc, rfl, hKc, kc4, b4⟩
      have S4 : Three wr.heap.size wr Ka (.slice none 0 0) [] Kb (.slice none 0 0) [] Kc (.slice none 0 0) [] w4 := by
        obtain ⟨e1, q1, d1⟩ := K2.out
        obtain ⟨e2, q2, d2⟩ := K3.out
        have z1 := d1.size
        have z2 := d2.size
        have z3 := q1.lt
        have z4 := q2.lt
        have z5 := kc4.lt
        refine ⟨(q1.keep_below d2).keep_below b4, (q2.less z1).keep_below b4, kc4.less (by omega), ?_, ?_, ?_, (d1.trans (d2.mono z1)).trans (b4.mono (by omega))⟩
        all_goals
          rintro k (h | h) (h2 | h2)
          · omega
          · cases h2
          · cases h
          · cases h
      have T4 := Lib.hid (fun (x : World) (hx : Below wr.heap.size wr x) => show Tab wr.heap.size x from fun y hy => HT.out y (H1.out.1.trans ((hx.trans hy).mono H1.out.1.size)))
      have HVA := Lib.hid (show ∀ x, Below wr.heap.size wr x → (IsTups x (.slice ao l.length cc) l ∧ IsTups x (.slice bo m.length dd) m) from fun x hx => ⟨HV.out.1.below (H1.out.1.trans (hx.mono H1.out.1.size)), HV.out.2.below (H1.out.1.trans (hx.mono H1.out.1.size))⟩)
      have HVB := Lib.hid (show (l ≠ [] → ∀ k, (Value.slice ao l.length cc).ownBlock = some k → k < wr.heap.size) ∧ (m ≠ [] → ∀ k, (Value.slice bo m.length dd).ownBlock = some k → k < wr.heap.size) from ⟨fun hne k hk => Nat.lt_of_lt_of_le (HV.out.1.lt hne k hk) H1.out.1.size, fun hne k hk => Nat.lt_of_lt_of_le (HV.out.2.lt hne k hk) H1.out.1.size⟩)
      have HS4 := Lib.hid S4
      have C5 := Lib.hid (ktuples_any wr.heap.size Ka _ _ _ l w4 S4.ka (HVA.out w4 S4.below).1 HVB.out.1 (by simp; omega) HS.out.1 (by omega) (T4.out w4 S4.below))
      clear S4 kc4 b4 hKc HN3 K2 K3
      go_wp2_with fail
      refine C5.out.mono ?_
      rintro e w5 ⟨rfl, va5, ka5, sa5⟩
      rw [List.nil_append] at ka5
      have S5 := HS4.out.a ka5 sa5
      have HS5 := Lib.hid S5
      have C6 := Lib.hid (ktuples_any wr.heap.size Kc _ _ _ l w5 S5.kc (HVA.out w5 S5.below).1 HVB.out.1 (by simp; omega) HS.out.1 (by omega) (T4.out w5 S5.below))
      clear S5 ka5 sa5 C5 HS4
      go_wp2_with fail
      refine C6.out.mono ?_
      rintro e w6 ⟨rfl, vc6, kc6, sc6⟩
      rw [List.nil_append] at kc6
      have S6 := HS5.out.c kc6 sc6
      have HS6 := Lib.hid S6
      have C7 := Lib.hid (text_any wr.heap.size Kb _ _ s w6 S6.kb (by simp) (by omega) (T4.out w6 S6.below))
      clear S6 kc6 sc6 C6 HS5
      go_wp2_with fail
      refine C7.out.mono ?_
      rintro e w7 ⟨rfl, vb7, kb7, sb7⟩
      rw [List.nil_append] at kb7
      have S7 := HS6.out.b kb7 sb7
      have HS7 := Lib.hid S7
      have C8 := Lib.hid (ktuples_any wr.heap.size Kb _ _ _ m w7 S7.kb (HVA.out w7 S7.below).2 HVB.out.2 (by omega) HS.out.2 (by omega) (T4.out w7 S7.below))
      clear S7 kb7 sb7 C7 HS6
      go_wp2_with fail
      refine C8.out.mono ?_
      rintro e w8 ⟨rfl, vb8, kb8, sb8⟩
      have S8 := HS7.out.b kb8 sb8
      have HS8 := Lib.hid S8
      have C9 := Lib.hid (text_any wr.heap.size Kc _ _ s w8 S8.kc (by omega) (by omega) (T4.out w8 S8.below))
      clear S8 kb8 sb8 C8 HS7
      go_wp2_with fail
      refine C9.out.mono ?_
      rintro e w9 ⟨rfl, vc9, kc9, sc9⟩
      have S9 := HS8.out.c kc9 sc9
      have HS9 := Lib.hid S9
      have C10 := Lib.hid (ktuples_any wr.heap.size Kc _ _ _ m w9 S9.kc (HVA.out w9 S9.below).2 HVB.out.2 (by rw [List.length_append]; omega) HS.out.2 (by omega) (T4.out w9 S9.below))
      clear S9 kc9 sc9 C9 HS8
      go_wp2_with fail
      refine C10.out.mono ?_
      rintro e w10 ⟨rfl, vc10, kc10, sc10⟩
      have S10 := HS9.out.c kc10 sc10
      rw [List.append_assoc] at S10
      have hts0 : (bs (textB s.data.toList)).size = (textB s.data.toList).length := bs_size _
      have htm0 : (bs (tuplesB m)).size = (tuplesB m).length := bs_size _
      have hlbl : (textB s.data.toList ++ tuplesB m).length = (textB s.data.toList).length + (tuplesB m).length := List.length_append
      have hna : tuplesB l ≠ [] := by simp [tuplesB, number]
      have hnb : textB s.data.toList ++ tuplesB m ≠ [] := by simp [textB, number]
      have hnc : tuplesB l ++ (textB s.data.toList ++ tuplesB m) ≠ [] := by simp [tuplesB, number]
      obtain ⟨lc, hlc⟩ : ∃ lc, lc = tuplesB l ++ (textB s.data.toList ++ tuplesB m) := ⟨_, rfl⟩
      rw [← hlc] at S10 hnc
      obtain ⟨lb, hlb⟩ : ∃ lb, lb = textB s.data.toList ++ tuplesB m := ⟨_, rfl⟩
      rw [← hlb] at S10 hlc hlbl hnb
      obtain ⟨la, hla⟩ : ∃ la, la = tuplesB l := ⟨_, rfl⟩
      rw [← hla] at S10 hlc htb hna
      have hlcl : la.length + lb.length = lc.length := by rw [hlc, List.length_append]
      have hcells : Lib.byteCells la ++ Lib.byteCells lb = Lib.byteCells lc := by rw [hlc, Lib.byteCells_append]
      have HQ := Lib.hid (And.intro hla (And.intro hlb (And.intro hlc (And.intro hcells hlcl))))
      have HNE := Lib.hid (And.intro hna (And.intro hnb hnc))
      have HSZ := Lib.hid (And.intro hts0 (And.intro htm0 hlbl))
      have hlb2 : lb.length ≤ 10438300 := by omega
      have hlc2 : lc.length ≤ 20000000 := by omega
      clear hla hlb hlc hcells hlcl hna hnb hnc hts0 htm0 hlbl
      have HS10 := Lib.hid S10
      have C11 := Lib.hid (bytes_any wr.heap.size Ka va5 _ w10 S10.ka HNE.out.1 (by omega))
      clear S10 kc10 sc10 C10 HS9
      go_wp2_with fail
      refine C11.out.mono ?_
      rintro e w11 ⟨g1, p1, rfl, o11, b11⟩
      have S11 := HS10.out.free b11
      have H11 := Lib.hid (And.intro o11 (And.intro S11 b11))
      have C12 := Lib.hid (bytes_any wr.heap.size Kb vb8 _ w11 S11.kb HNE.out.2.1 (by omega))
      clear o11 b11 S11 C11
      go_wp2_with fail
      refine C12.out.mono ?_
      rintro e w12 ⟨g2, p2, rfl, o12, b12⟩
      have H12 := Lib.hid (And.intro (own_below H11.out.1 b12) (And.intro (H11.out.2.1.free b12) (And.intro (o12.cells (g := g2) rfl) (show w10.heap.size ≤ w12.heap.size from Nat.le_trans H11.out.2.2.size b12.size))))
      clear o12 b12 C12
      obtain ⟨i0, T⟩ := isBytes
      go_wp2_with (at_builtin; refine walk_row T rfl _ _ rfl rfl rfl H12.out.1 H12.out.2.2.2 (m := lb.length) (news := Lib.byteCells lb) (Lib.byteCells_length _) H12.out.2.2.1 (one_oneCell _) (by omega) ?_)
      intro v13 w13 o13 g13 _
      have o13' : w13.ownsRow w10.heap.size 5 1 v13 lc.length (Lib.byteCells lc) := by
        rw [← HQ.out.2.2.2.1, ← HQ.out.2.2.2.2]
        exact o13
      have S13 : Three wr.heap.size wr Ka va5 la Kb vb8 lb Kc vc10 lc w13 := H12.out.2.1.on (F := fun k => w10.heap.size ≤ k) (Turns.of_grown g13 fun k hk => (H12.out.1.lt k hk).1) (fun k hk => Nat.le_trans HS10.out.below.size hk)
        (fun k hk hf => by have := (HS10.out.ka.foot k hk).2; omega) (fun k hk hf => by have := (HS10.out.kb.foot k hk).2; omega) (fun k hk hf => by have := (HS10.out.kc.foot k hk).2; omega)
      have hcl := HQ.out.2.2.2.2
      rcases o13'.2 with ⟨-, h0⟩ | ⟨gb, pb, cur, rfl, -⟩
      · exact absurd (List.eq_nil_of_length_eq_zero h0) HNE.out.2.2
      have hcv := conv_bytes o13'
      have C13 := Lib.hid (open_any (.slice (some ⟨gb, 0, none⟩) lc.length pb) (bs lc) w13 (fun W hW => by rw [hW]; exact hcv))
      have H13 := Lib.hid (And.intro o13' S13)
      clear o13 o13' g13 S13 hcv H12 H11 T
      go_wp2_with fail
      refine C13.out.mono ?_
      rintro e w14 ⟨rfl, i14, b14⟩
      have hIr : wr.heap.size ≤ w13.heap.size := H13.out.2.below.size
      have hgb : gb < w13.heap.size := (H13.out.1.lt gb rfl).2
      have HF := Lib.hid (show (∀ k, Foot Ka va5 k → ¬ At w13.heap.size k) ∧ (∀ k, Foot Kb vb8 k → ¬ At w13.heap.size k) ∧ (∀ k, Foot Kc vc10 k → ¬ At w13.heap.size k) from
        ⟨fun k hk hf => by have h9 := (H13.out.2.ka.foot k hk).2; have e : k = w13.heap.size := hf; omega, fun k hk hf => by have h9 := (H13.out.2.kb.foot k hk).2; have e : k = w13.heap.size := hf; omega, fun k hk hf => by have h9 := (H13.out.2.kc.foot k hk).2; have e : k = w13.heap.size := hf; omega⟩)
      have H14 := Lib.hid (And.intro (own_below H13.out.1 (b14.drew)) (And.intro (H13.out.2.free b14.drew) (i14.below (Below.refl _ _).drew)))
      clear i14 b14 C13 H13
      generalize w13.heap.size = I at *
      have hconv : ∀ x, Save I w14.drew x → (Go.convert 43 9 (.slice (some ⟨gb, 0, none⟩) lc.length pb)).run Tryd.prog x = .ok (.string (bs lc)) x := fun x hx => conv_bytes (own_turn H14.out.1 hx (fun k hk hf => by have e : gb = k := Option.some.inj hk; have e2 : k = I := hf; omega))
      have HCV := Lib.hid hconv
      clear hconv
      go_wp2_with fail
      have hgood : GoodAll l := fun p hp => ⟨H1.out.2 p hp, (small_good (H1.out.2 p hp)).1, (small_good (H1.out.2 p hp)).2⟩
      have HGA := Lib.hid hgood
      clear hgood
      refine Order.region_begin (S := Save I w14.drew) (by kernel_rfl) ?_
      refine Order.reads_any (idx := [0, 1, 2, 3, 4, 5]) (by kernel_rfl) (Save.refl _ _) (fun _ _ _ _ _ h => Order.noPanic_put h) 36 _ _ (by decide +kernel) ?_
      simp only [Order.pick, List.getElem?_toArray, List.getElem?_cons_zero, List.getElem?_cons_succ]
      repeat (first
        | (refine Order.reads_off (by rfl) ?_
           simp only [Act.put, List.setIfInBounds_toArray, List.set_cons_zero, List.set_cons_succ])
        | (apply Order.reads_on
           · rfl
           · intro x hx
             first
               | (go_simp; rfl)
               | (have i0 := HCV.out x hx
                  go_simp; rfl)
           simp only [Act.put, List.setIfInBounds_toArray, List.set_cons_zero, List.set_cons_succ]))
      refine Order.reads_end ?_
      apply Order.acts_any (R := Save I) Save.trans (i := 6)
      · rfl
      · decide +kernel
      · rfl
      unfold Oper.wp
      go_simp
      refine Calls.mono (bytes_any wr.heap.size Kc vc10 lc _ H14.out.2.1.kc HNE.out.2.2 (by omega)) ?_
      rintro e w15 ⟨g15, p15, rfl, o15, b15⟩
      refine ⟨Turns.of_below b15, ?_⟩
      have hIl := H14.out.2.2.lt
      have HCW := Lib.hid (show ∀ x, Save I w15 x → (Go.convert 43 9 (.slice (some ⟨g15, 0, none⟩) lc.length p15)).run Tryd.prog x = .ok (.string (bs lc)) x from fun x hx => conv_bytes (own_turn o15 hx (fun k hk hf => by have h9 := (o15.lt k hk).1; have e2 : k = I := hf; omega)))
      have H15 := Lib.hid (And.intro (H14.out.2.1.free b15) (H14.out.2.2.below b15))
      clear o15 b15
      refine Order.reads_any (idx := [7, 8, 9, 10, 11, 12, 13, 15]) (by kernel_rfl) (Save.refl _ _) (fun _ _ _ _ _ h => Order.noPanic_put h) 27 _ _ (by decide +kernel) ?_
      simp only [Order.pick, List.getElem?_toArray, List.getElem?_cons_zero, List.getElem?_cons_succ]
      repeat (first
        | (refine Order.reads_off (by rfl) ?_
           simp only [Act.put, List.setIfInBounds_toArray, List.set_cons_zero, List.set_cons_succ])
        | (apply Order.reads_on
           · rfl
           · intro x hx
             first
               | (go_simp; rfl)
               | (have i0 := HCW.out x hx
                  go_simp; rfl)
           simp only [Act.put, List.setIfInBounds_toArray, List.set_cons_zero, List.set_cons_succ]))
      refine Order.reads_end ?_
      apply Order.acts_any (R := Save I) Save.trans (i := 14)
      · rfl
      · decide +kernel
      · rfl
      unfold Oper.wp
      go_simp
      refine Calls.mono (tuples_goes I _ l lb l.length _ H15.out.2 (by rw [bs_list, HQ.out.2.2.1, HQ.out.1]) HGA.out (by omega) (Int.le_refl _)) ?_
      rintro e w16 ⟨v16, rfl, o16, i16, t16⟩
      refine ⟨t16, ?_⟩
      have S16 := H15.out.1.on t16 (fun k hk => by have e2 : k = I := hk; omega) HF.out.1 HF.out.2.1 HF.out.2.2
      obtain ⟨a16, p16, rfl⟩ := own_slice6 o16
      have C17 := Lib.hid (same_any _ _ l w16 (tups_own o16) (HVA.out w16 S16.below).1 (by omega))
      have H16 := Lib.hid (And.intro S16 i16)
      clear S16 i16 t16 o16
      apply Order.acts_any (R := Save I) Save.trans (i := 16)
      · rfl
      · decide +kernel
      · rfl
      unfold Oper.wp
      go_simp
      refine Calls.mono C17.out ?_
      rintro e w17 ⟨rfl, b17⟩
      refine ⟨Turns.of_below b17, ?_⟩
      have H17 := Lib.hid (And.intro (H16.out.1.free b17) (H16.out.2.below b17))
      clear b17 C17
      refine Order.reads_any (idx := [17, 18, 19, 20, 21, 23]) (by kernel_rfl) (Save.refl _ _) (fun _ _ _ _ _ h => Order.noPanic_put h) 19 _ _ (by decide +kernel) ?_
      simp only [Order.pick, List.getElem?_toArray, List.getElem?_cons_zero, List.getElem?_cons_succ]
      repeat (first
        | (refine Order.reads_off (by rfl) ?_
           simp only [Act.put, List.setIfInBounds_toArray, List.set_cons_zero, List.set_cons_succ])
        | (apply Order.reads_on
           · rfl
           · intro x hx
             first
               | (go_simp; rfl)
               | (fail
                  go_simp; rfl)
           simp only [Act.put, List.setIfInBounds_toArray, List.set_cons_zero, List.set_cons_succ]))
      refine Order.reads_end ?_
      apply Order.acts_any (R := Save I) Save.trans (i := 22)
      · rfl
      · decide +kernel
      · rfl
      unfold Oper.wp
      go_simp
      refine Calls.mono (text_goes I _ s (tuplesB m) false s.size _ H17.out.2 (by rw [bs_list, HQ.out.2.1]) (by omega) (Int.le_refl _)) ?_
      rintro e w18 ⟨rfl, i18, t18⟩
      refine ⟨t18, ?_⟩
      have H18 := Lib.hid (And.intro (H17.out.1.on t18 (fun k hk => by have e2 : k = I := hk; omega) HF.out.1 HF.out.2.1 HF.out.2.2) i18)
      clear i18 t18
      refine Order.reads_any (idx := [24, 25, 26, 27, 29, 30, 31, 35]) (by kernel_rfl) (Save.refl _ _) (fun _ _ _ _ _ h => Order.noPanic_put h) 10 _ _ (by decide +kernel) ?_
      simp only [Order.pick, List.getElem?_toArray, List.getElem?_cons_zero, List.getElem?_cons_succ]
      repeat (first
        | (refine Order.reads_off (by rfl) ?_
           simp only [Act.put, List.setIfInBounds_toArray, List.set_cons_zero, List.set_cons_succ])
        | (apply Order.reads_on
           · rfl
           · intro x hx
             first
               | (go_simp; rfl)
               | (fail
                  go_simp; rfl)
           simp only [Act.put, List.setIfInBounds_toArray, List.set_cons_zero, List.set_cons_succ]))
      refine Order.reads_end ?_
      apply Order.acts_any (R := Save I) Save.trans (i := 28)
      · rfl
      · decide +kernel
      · rfl
      unfold Oper.wp
      go_simp
      refine Calls.mono (left_any I _ false _ H18.out.2) ?_
      rintro e w19 ⟨rfl, hw19⟩
      subst hw19
      refine ⟨Save.refl _ _, ?_⟩
      apply Order.acts_any (R := Save I) Save.trans (i := 32)
      · rfl
      · decide +kernel
      · rfl
      unfold Oper.wp
      go_simp
      refine Calls.mono (bytes_any wr.heap.size Ka va5 la _ H18.out.1.ka HNE.out.1 (by omega)) ?_
      rintro e w20 ⟨g20, p20, rfl, o20, b20⟩
      refine ⟨Turns.of_below b20, ?_⟩
      have H20 := Lib.hid (H18.out.1.free b20)
      clear o20 b20
      obtain ⟨z1, z2, z3⟩ := HSZ.out
      have z4 := HQ.out.2.2.2.2
      refine Order.reads_any (idx := [33, 34]) (by kernel_rfl) (Save.refl _ _) (fun _ _ _ _ _ h => Order.noPanic_put h) 6 _ _ (by decide +kernel) ?_
      simp only [Order.pick, List.getElem?_toArray, List.getElem?_cons_zero, List.getElem?_cons_succ]
      repeat (first
        | (refine Order.reads_off (by rfl) ?_
           simp only [Act.put, List.setIfInBounds_toArray, List.set_cons_zero, List.set_cons_succ])
        | (apply Order.reads_on
           · rfl
           · intro x hx
             first
               | (go_simp; rfl)
               | (fail
                  go_simp; rfl)
           simp only [Act.put, List.setIfInBounds_toArray, List.set_cons_zero, List.set_cons_succ]))
      refine Order.reads_end ?_
      apply Order.acts_any (R := Save I) Save.trans (i := 36)
      · rfl
      · decide +kernel
      · rfl
      unfold Oper.wp
      go_simp
      refine Calls.mono (rtext_any s _ (by omega)) ?_
      rintro e w21 ⟨rfl, b21⟩
      refine ⟨Turns.of_below b21, ?_⟩
      have H21 := Lib.hid (H20.out.free b21)
      clear b21
      generalize bs (textB s.data.toList) = ft at *
      generalize bs (tuplesB m) = fm at *
      refine Order.reads_any (idx := [37, 38, 39, 40, 41]) (by kernel_rfl) (Save.refl _ _) (fun _ _ _ _ _ h => Order.noPanic_put h) 0 _ _ (by decide +kernel) ?_
      simp only [Order.pick, List.getElem?_toArray, List.getElem?_cons_zero, List.getElem?_cons_succ]
      repeat (first
        | (refine Order.reads_off (by rfl) ?_
           simp only [Act.put, List.setIfInBounds_toArray, List.set_cons_zero, List.set_cons_succ])
        | (apply Order.reads_on
           · rfl
           · intro x hx
             first
               | (go_simp; rfl)
               | (fail
                  go_simp; rfl)
           simp only [Act.put, List.setIfInBounds_toArray, List.set_cons_zero, List.set_cons_succ]))
      refine Order.reads_end ?_
      refine wpAnyH_done (by decide +kernel) ?_ _
      refine NoPanic.normal ?_
      go_wp2
      go_ret
      refine ⟨?_, H1.out.1.trans (H21.out.below.mono H1.out.1.size)⟩
      have e1 : IntKind.i64.wrap ((lc.length : Int) - la.length) = lb.length := by rw [IntKind.wrap_i64]; omega
      have e2 : IntKind.i64.wrap ((lb.length : Int) - (textB s.data.toList).length) = (tuplesB m).length := by rw [IntKind.wrap_i64]; omega
      show Ending.returned (Value.bool (((tuplesB m).length : Int) == IntKind.i64.wrap (IntKind.i64.wrap ((lc.length : Int) - la.length) - (textB s.data.toList).length))) = _
      rw [e1, e2]
      simp

theorem joins_walk (v : Value) (l : List (L3 × L3)) (u : Value) (m : List (L3 × L3)) (s : ByteArray) (w : World) (hv : IsTups w v l) (hw : wts l ≤ 1048576) (hu : IsTups w u m) (hw2 : wts m ≤ 1048576) (_hs : s.size ≤ maxLen) (htab : Tab w.heap.size w) :
    Calls Tryd.prog 7 #[v, u, .string s] w fun e x => e = .returned (.bool true) ∧ Below w.heap.size w x := by
  by_cases h : l.length ≤ 40 ∧ m.length ≤ 40 ∧ s.size ≤ 1000
  · exact joins_short v u l m s w hv hu htab h.1 h.2.1 h.2.2 hw hw2
  · exact joins_long v u l m s w hv hu htab (by omega)
end Knot
end Go.Proofs.YtoeaapomjjclaaaDoor
