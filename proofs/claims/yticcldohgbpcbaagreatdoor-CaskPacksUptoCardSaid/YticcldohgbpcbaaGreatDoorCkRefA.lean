/-
  Layer 10 (cask): the document's node and Pack.
-/
import Derived.Test.YticcldohgbpcbaaGreatDoorRefK
import Derived.Test.YticcldohgbpcbaaGreatDoorMgMem
import Derived.Test.YticcldohgbpcbaaGreatDoorCgB
import Derived.Test.YticcldohgbpcbaaGreatDoorCkTieL
namespace Go.Proofs.YticcldohgbpcbaaGreatDoor
open Go.RowKit Go.Sort
namespace Ck
open Knot (number textB markB)
open Tr (Nd none0 node4 IsNode Box4)
open Who (bs bs_list bs_size bs_self eq_of_list wp_region_class quiet_of)
open Gr (Al Rl Ty IsAl IsRl IsTy IsCf Lies ty_at rl_at al_at alV relV tyV tAl tRl tTy tCf)

theorem number_small {n : Nat} (h : n < 9223372036854775808) : (number n).length ≤ 21 := by
  rw [number, List.length_append, List.length_singleton]
  have := Knot.digits_len 18 n (by omega)
  omega
theorem text_small {s : ByteArray} (h : s.size ≤ 16) : (textB s.data.toList).length ≤ 40 := by
  rw [Lib.size_eq] at h
  have := Knot.textB_len (s := s.data.toList) (by omega)
  omega
theorem add_run {s t : ByteArray} (h : s.size + t.size ≤ 1000000000) : ∀ W, (Op.stringOp .add s t).run Tryz.prog W = .ok (.string (s ++ t)) W := fun W => run_string_add_sum _ _ _ (by omega)
theorem add_nil (p : ByteArray) : p ++ bs [] = p := by
  have h := Who.bs_add p.data.toList []
  rw [bs_self, List.append_nil, bs_self] at h
  exact h
theorem kids_bytes {n : Nd} : (listB nodeB n.kids).length ≤ (nodeB n).length := by rw [nodeB_eq, List.length_append, List.length_append, List.length_append]; omega

set_option maxHeartbeats 8000000 in
set_option maxRecDepth 100000 in
theorem rnode_any : ∀ (d : Nat) (n : Nd) (v : Value) (w : World), okN kidsP d n → (nodeB n).length ≤ 60000000 → IsNode w n v →
    Calls Tryz.prog 53 #[v] w fun e x => e = .returned (.string (bs (nodeB n))) ∧ Below w.heap.size w x := by
  intro d
  induction d with
  | zero => intro n v w h; exact h.elim
  | succ d ih =>
    intro n v w hn hz hu
    obtain ⟨⟨hk0, hk6⟩, ha, hb, hkn, -, hkids⟩ := hn
    obtain ⟨ao, cap, vs, rfl, -, hks⟩ := hu.kids
    obtain ⟨k, hk⟩ : ∃ k : Nat, n.kind = k := ⟨n.kind.toNat, by omega⟩
    have hbound := listB_len nodeB_pos n.kids
    have hkb := kids_bytes (n := n)
    have hlen : n.kids.length ≤ 60000000 := by omega
    have hi : ∀ m ∈ n.kids, (nodeB m).length ≤ 60000000 := fun m hm => by
      have := listB_mem (f := nodeB) hm
      omega
    have HI := Lib.hid (fun m (hm : m ∈ n.kids) v w => ih m v w (hkids m hm) (hi m hm))
    have hN := Lib.hid (fun x => Knot.rnumber_any k x (by omega))
    have hA := Lib.hid (fun x => Knot.rtext_any n.ta x (by omega))
    have hB := Lib.hid (fun x => Knot.rtext_any n.tb x (by omega))
    have hL := Lib.hid (fun x => Knot.rnumber_any n.kids.length x (by omega))
    have e0 : bs (nodeB n) = bs (number k) ++ bs (textB n.ta.data.toList) ++ bs (textB n.tb.data.toList) ++ bs (number n.kids.length) ++ bs (n.kids.flatMap nodeB) := by
      rw [nodeB_eq, hk, Int.toNat_natCast, listB, ← Who.bs_add, ← Who.bs_add, ← Who.bs_add, ← Who.bs_add]
      simp only [ByteArray.append_assoc]
    have hfl : ∀ i, ((n.kids.take i).flatMap nodeB).length ≤ 60000000 := fun i => by
      have h1 : n.kids.flatMap nodeB = (n.kids.take i).flatMap nodeB ++ (n.kids.drop i).flatMap nodeB := by rw [← List.flatMap_append, List.take_append_drop]
      have h2 := congrArg List.length h1
      rw [List.length_append] at h2
      rw [listB, List.length_append] at hkb
      omega
    have HFl := Lib.hid (And.intro hfl (And.intro e0 hi))
    have s1 : (bs (number k)).size ≤ 21 := by rw [bs_size]; exact number_small (by omega)
    have s2 : (bs (textB n.ta.data.toList)).size ≤ 40 := by rw [bs_size]; exact text_small ha
    have s3 : (bs (textB n.tb.data.toList)).size ≤ 40 := by rw [bs_size]; exact text_small hb
    have s4 : (bs (number n.kids.length)).size ≤ 21 := by rw [bs_size]; exact number_small (by omega)
    have N1 := Box4.new w k n.ta n.tb (.slice ao n.kids.length cap)
    have hB0 := Tr.fresh_one w (.cells #[.int .i64 (k : Int), .string n.ta, .string n.tb, .slice ao n.kids.length cap] 50)
    have H0 := Lib.hid (And.intro hB0 N1)
    have HK := Lib.hid (hks.below hB0)
    rw [hk]
    clear hks hu hz ih hkids hbound hkb hi e0 hfl N1 hB0 hk hk0 hk6 hkn ha hb
    generalize bs (number k) = t1 at *
    generalize bs (textB n.ta.data.toList) = t2 at *
    generalize bs (textB n.tb.data.toList) = t3 at *
    generalize bs (number n.kids.length) = t4 at *
    have a1 := add_run (s := t1) (t := t2) (by omega)
    have a2 := add_run (s := t1 ++ t2) (t := t3) (by rw [ByteArray.size_append]; omega)
    have a3 := add_run (s := t1 ++ t2 ++ t3) (t := t4) (by rw [ByteArray.size_append, ByteArray.size_append]; omega)
    have hsz : (t1 ++ t2 ++ t3 ++ t4).size ≤ 200 := by rw [ByteArray.size_append, ByteArray.size_append, ByteArray.size_append]; omega
    have HS := Lib.hid hsz
    clear s1 s2 s3 s4 hsz
    go_enter Tryz.func53, Tryz.ntmps53
    go_upto_region 1 with fail
    generalize w.alloc (.cells #[.int .i64 (k : Int), .string n.ta, .string n.tb, .slice ao n.kids.length cap] 50) = X at *
    refine wp_region_class (C := fun x => Below X.heap.size X x) (by kernel_rfl) (by kernel_rfl) (Below.refl _ _).drew ?_
    repeat (first
      | go_big_quiet_skip
      | (go_big_quiet_want
         apply quiet_of
         · intro x hx
           obtain ⟨b0, b1, b2, b3⟩ := (H0.out.2.on hx).cells
           first
             | (go_simp; rfl)
             | (clear b0 b1 b2 b3
                go_simp
                first
                  | (go_at_call 50; refine (hN.out x).mono ?_; rintro e y ⟨rfl, hy⟩; exact ⟨rfl, hx.trans (hy.mono hx.size)⟩)
                  | (go_at_call 51; refine (hA.out x).mono ?_; rintro e y ⟨rfl, hy⟩; exact ⟨rfl, hx.trans (hy.mono hx.size)⟩)
                  | (go_at_call 51; refine (hB.out x).mono ?_; rintro e y ⟨rfl, hy⟩; exact ⟨rfl, hx.trans (hy.mono hx.size)⟩)
                  | (go_at_call 50; refine (hL.out x).mono ?_; rintro e y ⟨rfl, hy⟩; exact ⟨rfl, hx.trans (hy.mono hx.size)⟩))
         simp only [Act.put, List.setIfInBounds_toArray, List.set_cons_zero, List.set_cons_succ]
         go_big_quiet_on))
    refine wpQuiet_nil ?_
    intro x hx
    have HX := Lib.hid hx
    obtain ⟨b0, b1, b2, b3⟩ := (H0.out.2.on hx).cells
    clear hx a1 a2 a3 hN hA hB hL b0 b1 b2
    generalize t1 ++ t2 ++ t3 ++ t4 = p at *
    go_wp2_with fail
    clear b3
    go_loopw [3, 24] (fun sv iv wr => ∃ i : Nat, i ≤ n.kids.length ∧ iv = .int .i64 i ∧ sv = .string (p ++ bs ((n.kids.take i).flatMap nodeB)) ∧ Below X.heap.size X wr) (fun _ iv _ => n.kids.length - (intOf iv).toNat)
    case atStart => exact ⟨0, by omega, rfl, by rw [List.take_zero, List.flatMap_nil, add_nil], HX.out⟩
    case round =>
      obtain ⟨i, hi, rfl, rfl, hb⟩ := hrel
      have HB := Lib.hid hb
      by_cases hlt : i < n.kids.length
      · obtain ⟨g, q, sa, sc, hix, hg, c0, c1, c2, c3, hm⟩ := (HK.out.below hb).at cap hlt
        have hnx := flat_next nodeB n.kids i hlt
        have hC := HI.out n.kids[i] (List.getElem_mem hlt) _ wr hm
        have hz1 := HFl.out.1 i
        have hz2 := HFl.out.2.2 _ (List.getElem_mem hlt)
        have a1 := add_run (s := p ++ bs ((n.kids.take i).flatMap nodeB)) (t := bs (nodeB n.kids[i])) (by
          have := HS.out
          rw [ByteArray.size_append, bs_size, bs_size]
          omega)
        have hs : p ++ bs ((n.kids.take i).flatMap nodeB) ++ bs (nodeB n.kids[i]) = p ++ bs ((n.kids.take (i + 1)).flatMap nodeB) := by rw [hnx, ← Who.bs_add, ByteArray.append_assoc]
        have HC := Lib.hid hC
        have HSS := Lib.hid hs
        obtain ⟨-, -, -, b3⟩ := (H0.out.2.on hb).cells
        clear hC hm hnx hz1 hz2 hb hg hs
        generalize n.kids[i] = m at *
        generalize p ++ bs ((n.kids.take i).flatMap nodeB) = sp at *
        go_wp2_with fail
        refine HC.out.mono ?_
        rintro e y ⟨rfl, hy⟩
        have HY := Lib.hid (HB.out.trans (hy.mono HB.out.size))
        clear hy HC HB c0 c1 c2 c3 b3
        go_wp2_with fail
        go_roundw
        case rel => exact ⟨i + 1, by omega, by go_num, by rw [← HSS.out], HY.out⟩
        case measure => simp [intOf]; omega
      · obtain rfl : i = n.kids.length := by omega
        have HE := Lib.hid (show p ++ bs ((n.kids.take n.kids.length).flatMap nodeB) = bs (nodeB n) by rw [List.take_length, HFl.out.2.1])
        clear hb
        go_wp2_with fail
        go_ret
        exact ⟨by rw [← HE.out]; rfl, H0.out.1.trans (HB.out.mono H0.out.1.size)⟩

theorem flat_sum {α : Type} {f : α → List UInt8} (l : List α) {i : Nat} (hi : i < l.length) : ((l.take i).flatMap f).length + (f l[i]).length ≤ (l.flatMap f).length := by
  have h1 := flat_next f l i hi
  have h2 := flat_part f l (i + 1)
  rw [h1, List.length_append] at h2
  exact h2
set_option maxHeartbeats 16000000 in
set_option maxRecDepth 100000 in
theorem rpack_any {big : Int} (l : List Ty) (v : Value) (w : World) (h : IsCf w l v) (hok : okC big kidsP l) (hz : (confB l).length ≤ 60000000) :
    Calls Tryz.prog 20 #[v] w fun e x => e = .returned (.string (bs (confB l))) ∧ Below w.heap.size w x := by
  obtain ⟨ao, cap, us, rfl, hl⟩ := h
  have al := Tr.fresh_one w (.cells #[.slice ao l.length cap] tCf)
  have hk := heap_alloc_new w (.cells #[.slice ao l.length cap] tCf)
  have hlen := listB_len typeB_pos l
  have hzz : (number l.length).length + (l.flatMap typeB).length ≤ 60000000 := by rw [confB, listB, List.length_append] at hz; exact hz
  have HN0 := Lib.hid (fun x => Knot.rnumber_any l.length x (by rw [show listB typeB l = confB l from rfl] at hlen; omega))
  have H0 := Lib.hid (And.intro al (And.intro hk (hl.on al fun _ _ h => h.below al)))
  have hll : l.length ≤ 60000000 := by rw [show listB typeB l = confB l from rfl] at hlen; omega
  have HO := Lib.hid (And.intro hok.2.2 (And.intro hzz (show confB l = number l.length ++ l.flatMap typeB from rfl)))
  have hR0 : w.heap.size < (w.alloc (.cells #[.slice ao l.length cap] tCf)).heap.size := by simp
  clear al hk hl hok hz hzz hlen
  generalize number l.length = L0 at *
  have b0 := Gr.box1 H0.out.2.1
  go_enter Tryz.func20, Tryz.ntmps20
  go_upto_region 1 with fail
  generalize w.alloc (.cells #[.slice ao l.length cap] 24) = X at *
  go_wp2_with fail
  refine (HN0.out _).mono ?_
  rintro e x0 ⟨rfl, hx0⟩
  have HX0 := Lib.hid hx0
  clear b0
  have b0 := Gr.box1 ((hx0.block _ hR0).trans H0.out.2.1)
  clear hx0 HN0
  go_wp2_with fail
  clear b0
  go_loopw [3, 17] (fun sv iv wr => ∃ i : Nat, i ≤ l.length ∧ iv = .int .i64 i ∧ sv = .string (bs (L0 ++ (l.take i).flatMap typeB)) ∧ Below X.heap.size X wr) (fun _ iv _ => l.length - (intOf iv).toNat)
  case atStart => exact ⟨0, by omega, rfl, by rw [List.take_zero, List.flatMap_nil, List.append_nil], HX0.out⟩
  case round =>
    clear HX0
    obtain ⟨i, hi, rfl, rfl, hb⟩ := hrel
    have b0 := Gr.box1 ((hb.block _ hR0).trans H0.out.2.1)
    by_cases hlt : i < l.length
    · obtain ⟨g, q, ro, rc, vs, hix, hg, c0, c1, hla⟩ := ty_at (H0.out.2.2.on hb fun _ _ h => h.below hb) cap hlt
      have hnx := flat_next typeB l i hlt
      have hsum := flat_sum (f := typeB) l hlt
      have hot := HO.out.1 l[i] (List.getElem_mem hlt)
      generalize l[i] = t at *
      have htb : typeB t = textB t.name.data.toList ++ number t.rels.length ++ t.rels.flatMap relB := by rw [typeB, listB, List.append_assoc]
      have htl : (typeB t).length = (textB t.name.data.toList).length + (number t.rels.length).length + (t.rels.flatMap relB).length := by rw [htb, List.length_append, List.length_append]
      have hrl := flat_len relB_pos t.rels
      have hz2 := HO.out.2.1
      have htr : t.rels.length ≤ 60000000 := by omega
      have al1 := Tr.fresh_one wr (.cells #[.string t.name, .slice ro t.rels.length rc] tTy)
      have hk1 := heap_alloc_new wr (.cells #[.string t.name, .slice ro t.rels.length rc] tTy)
      have HT1 := Lib.hid (fun x => Knot.rtext_any t.name x (by have := hot.1; omega))
      have HN1 := Lib.hid (fun x => Knot.rnumber_any t.rels.length x (by omega))
      have H1 := Lib.hid (And.intro (hb.trans (al1.mono hb.size)) (And.intro hk1 (hla.on al1 fun _ _ h => h.below al1)))
      have HQ := Lib.hid (And.intro hnx (And.intro htb hot.2.2.2))
      obtain ⟨L1, hL1⟩ : ∃ L1, L1 = L0 ++ (l.take i).flatMap typeB := ⟨_, rfl⟩
      have hl1 : L1.length + (typeB t).length ≤ 60000000 := by rw [hL1, List.length_append]; omega
      rw [← hL1]
      have HL1 := Lib.hid hL1
      have HLT := Lib.hid (And.intro hl1 htl)
      have hR1 : wr.heap.size < (wr.alloc (.cells #[.string t.name, .slice ro t.rels.length rc] tTy)).heap.size := by simp
      have a1 := add_run (s := bs L1) (t := bs (textB t.name.data.toList)) (by rw [bs_size, bs_size]; omega)
      have a2 := add_run (s := bs L1 ++ bs (textB t.name.data.toList)) (t := bs (number t.rels.length)) (by rw [ByteArray.size_append, bs_size, bs_size, bs_size]; omega)
      have e2 : bs L1 ++ bs (textB t.name.data.toList) ++ bs (number t.rels.length) = bs (L1 ++ textB t.name.data.toList ++ number t.rels.length) := by rw [Who.bs_add, Who.bs_add]
      have HE2 := Lib.hid e2
      clear hnx hsum hot htb htl hrl hz2 al1 hk1 hb hg hla hL1 hl1 e2
      go_upto_region 6 with fail
      generalize wr.alloc (.cells #[.string t.name, .slice ro t.rels.length rc] 43) = Y at *
      generalize wr.heap.size = R1 at *
      clear b0 c0 c1 hix
      generalize textB t.name.data.toList = tb1 at *
      generalize number t.rels.length = nb1 at *
      refine wp_region_class (C := fun x => Below Y.heap.size Y x) (by kernel_rfl) (by kernel_rfl) (Below.refl _ _).drew ?_
      repeat (first
        | go_big_quiet_skip
        | (go_big_quiet_want
           apply quiet_of
           · intro x hx
             obtain ⟨c0, c1⟩ := box2 ((hx.block _ hR1).trans H1.out.2.1)
             first
               | (go_simp; rfl)
               | (clear c0 c1
                  go_simp
                  first
                    | (go_at_call 51; refine (HT1.out x).mono ?_; rintro e y ⟨rfl, hy⟩; exact ⟨rfl, hx.trans (hy.mono hx.size)⟩)
                    | (go_at_call 50; refine (HN1.out x).mono ?_; rintro e y ⟨rfl, hy⟩; exact ⟨rfl, hx.trans (hy.mono hx.size)⟩))
           simp only [Act.put, List.setIfInBounds_toArray, List.set_cons_zero, List.set_cons_succ]
           go_big_quiet_on))
      refine wpQuiet_nil ?_
      intro x1 hx1
      have HX1 := Lib.hid hx1
      obtain ⟨c0, c1⟩ := box2 ((hx1.block _ hR1).trans H1.out.2.1)
      rw [HE2.out]
      clear hx1 a1 a2 HE2 HT1 HN1 c0
      obtain ⟨M1, hM1⟩ : ∃ M1, M1 = L1 ++ tb1 ++ nb1 := ⟨_, rfl⟩
      have HM1 := Lib.hid hM1
      have hml : M1.length + (t.rels.flatMap relB).length ≤ 60000000 := by have := HLT.out; rw [hM1, List.length_append, List.length_append]; omega
      have HML := Lib.hid hml
      rw [← hM1]
      clear hM1 hml
      go_wp2_with fail
      clear c1
      go_loopw [3, 38] (fun sv iv wr => ∃ k : Nat, k ≤ t.rels.length ∧ iv = .int .i64 k ∧ sv = .string (bs (M1 ++ (t.rels.take k).flatMap relB)) ∧ Below Y.heap.size Y wr) (fun _ iv _ => t.rels.length - (intOf iv).toNat)
      case atStart => exact ⟨0, by omega, rfl, by rw [List.take_zero, List.flatMap_nil, List.append_nil], HX1.out⟩
      case round =>
        clear HX1
        obtain ⟨k, hk, rfl, rfl, hb⟩ := hrel
        obtain ⟨e0, e1⟩ := box2 ((hb.block _ hR1).trans H1.out.2.1)
        clear e0
        by_cases hkt : k < t.rels.length
        · obtain ⟨g2, q2, so, sc, no, nc, ss, hix, hg, c0, c1, c2, c3, c4, c5, hla, hnd⟩ := rl_at (H1.out.2.2.on hb fun _ _ h => h.below hb) rc hkt
          have hnx := flat_next relB t.rels k hkt
          have hsum := flat_sum (f := relB) t.rels hkt
          have hor := HQ.out.2.2 t.rels[k] (List.getElem_mem hkt)
          generalize t.rels[k] = r at *
          have hrb : relB r = textB r.name.data.toList ++ number r.allow.length ++ r.allow.flatMap allowB ++ nodeB r.expr := by rw [relB, listB]; simp
          have hrbl : (relB r).length = (textB r.name.data.toList).length + (number r.allow.length).length + (r.allow.flatMap allowB).length + (nodeB r.expr).length := by rw [hrb, List.length_append, List.length_append, List.length_append]
          have hal := flat_len allowB_pos r.allow
          have hz2 := HML.out
          have htr2 : r.allow.length ≤ 60000000 := by omega
          have al1 := Tr.fresh_one wr (.cells #[.string r.name, .slice so r.allow.length sc, .int .i64 r.expr.kind, .string r.expr.ta, .string r.expr.tb, .slice no r.expr.kids.length nc] tRl)
          have hk1 := heap_alloc_new wr (.cells #[.string r.name, .slice so r.allow.length sc, .int .i64 r.expr.kind, .string r.expr.ta, .string r.expr.tb, .slice no r.expr.kids.length nc] tRl)
          have HT2 := Lib.hid (fun x => Knot.rtext_any r.name x (by have := hor.1; omega))
          have HN2 := Lib.hid (fun x => Knot.rnumber_any r.allow.length x (by omega))
          have H2 := Lib.hid (And.intro (hb.trans (al1.mono hb.size)) (And.intro hk1 (And.intro (hla.on al1 fun _ _ h => h) (hnd.below al1))))
          have HQ2 := Lib.hid (And.intro hnx (And.intro hrb (And.intro hor.2.1.2.2 hor.2.2)))
          obtain ⟨L2, hL2⟩ : ∃ L2, L2 = M1 ++ (t.rels.take k).flatMap relB := ⟨_, rfl⟩
          have hl2 : L2.length + (relB r).length ≤ 60000000 := by rw [hL2, List.length_append]; omega
          rw [← hL2]
          have HL2 := Lib.hid hL2
          have HLT2 := Lib.hid (And.intro hl2 hrbl)
          have hR2 : wr.heap.size < (wr.alloc (.cells #[.string r.name, .slice so r.allow.length sc, .int .i64 r.expr.kind, .string r.expr.ta, .string r.expr.tb, .slice no r.expr.kids.length nc] tRl)).heap.size := by simp
          have a1 := add_run (s := bs L2) (t := bs (textB r.name.data.toList)) (by rw [bs_size, bs_size]; omega)
          have a2 := add_run (s := bs L2 ++ bs (textB r.name.data.toList)) (t := bs (number r.allow.length)) (by rw [ByteArray.size_append, bs_size, bs_size, bs_size]; omega)
          have e2 : bs L2 ++ bs (textB r.name.data.toList) ++ bs (number r.allow.length) = bs (L2 ++ textB r.name.data.toList ++ number r.allow.length) := by rw [Who.bs_add, Who.bs_add]
          have HE2 := Lib.hid e2
          clear hnx hsum hor hrb hrbl hal hz2 al1 hk1 hb hg hla hnd hL2 hl2 e2
          go_upto_region 11 with fail
          generalize wr.alloc (.cells #[.string r.name, .slice so r.allow.length sc, .int .i64 r.expr.kind, .string r.expr.ta, .string r.expr.tb, .slice no r.expr.kids.length nc] 52) = Z at *
          generalize wr.heap.size = R2 at *
          clear e1 c0 c1 c2 c3 c4 c5 hix
          generalize textB r.name.data.toList = tb2 at *
          generalize number r.allow.length = nb2 at *
          refine wp_region_class (C := fun x => Below Z.heap.size Z x) (by kernel_rfl) (by kernel_rfl) (Below.refl _ _).drew ?_
          repeat (first
            | go_big_quiet_skip
            | (go_big_quiet_want
               apply quiet_of
               · intro x hx
                 obtain ⟨c0, c1, c2, c3, c4, c5⟩ := box6 ((hx.block _ hR2).trans H2.out.2.1)
                 first
                   | (go_simp; rfl)
                   | (clear c0 c1 c2 c3 c4 c5
                      go_simp
                      first
                        | (go_at_call 51; refine (HT2.out x).mono ?_; rintro e y ⟨rfl, hy⟩; exact ⟨rfl, hx.trans (hy.mono hx.size)⟩)
                        | (go_at_call 50; refine (HN2.out x).mono ?_; rintro e y ⟨rfl, hy⟩; exact ⟨rfl, hx.trans (hy.mono hx.size)⟩))
               simp only [Act.put, List.setIfInBounds_toArray, List.set_cons_zero, List.set_cons_succ]
               go_big_quiet_on))
          refine wpQuiet_nil ?_
          intro x2 hx2
          have HX2 := Lib.hid hx2
          obtain ⟨c0, c1, c2, c3, c4, c5⟩ := box6 ((hx2.block _ hR2).trans H2.out.2.1)
          rw [HE2.out]
          clear hx2 a1 a2 HE2 HT2 HN2 c0 c2 c3 c4 c5
          obtain ⟨M2, hM2⟩ : ∃ M2, M2 = L2 ++ tb2 ++ nb2 := ⟨_, rfl⟩
          have HM2 := Lib.hid hM2
          have hml : M2.length + (r.allow.flatMap allowB).length + (nodeB r.expr).length ≤ 60000000 := by have := HLT2.out; rw [hM2, List.length_append, List.length_append]; omega
          have HML2 := Lib.hid hml
          rw [← hM2]
          clear hM2 hml
          go_wp2_with fail
          clear c1
          go_loopw [3, 59] (fun sv iv wr => ∃ j : Nat, j ≤ r.allow.length ∧ iv = .int .i64 j ∧ sv = .string (bs (M2 ++ (r.allow.take j).flatMap allowB)) ∧ Below Z.heap.size Z wr) (fun _ iv _ => r.allow.length - (intOf iv).toNat)
          case atStart => exact ⟨0, by omega, rfl, by rw [List.take_zero, List.flatMap_nil, List.append_nil], HX2.out⟩
          case round =>
            clear HX2
            obtain ⟨j, hj, rfl, rfl, hb⟩ := hrel
            obtain ⟨i0, i1, i2, i3, i4, i5⟩ := box6 ((hb.block _ hR2).trans H2.out.2.1)
            by_cases hjt : j < r.allow.length
            · obtain ⟨g3, q3, hix, hg, c0, c1, c2⟩ := al_at (H2.out.2.2.1.on hb fun _ _ h => h) sc hjt
              have hnx := flat_next allowB r.allow j hjt
              have hsum := flat_sum (f := allowB) r.allow hjt
              have hoa := HQ2.out.2.2.1 r.allow[j] (List.getElem_mem hjt)
              generalize r.allow[j] = a at *
              have hab : allowB a = textB a.ty.data.toList ++ textB a.rel.data.toList ++ markB a.wild := by rw [allowB]; simp
              have habl : (allowB a).length = (textB a.ty.data.toList).length + (textB a.rel.data.toList).length + (markB a.wild).length := by rw [hab, List.length_append, List.length_append]
              have hz2 := HML2.out
              have al1 := Tr.fresh_one wr (.cells #[.string a.ty, .string a.rel, .bool a.wild] tAl)
              have hk1 := heap_alloc_new wr (.cells #[.string a.ty, .string a.rel, .bool a.wild] tAl)
              have HT3 := Lib.hid (fun x => Knot.rtext_any a.ty x (by have := hoa.1; omega))
              have HT4 := Lib.hid (fun x => Knot.rtext_any a.rel x (by have := hoa.2; omega))
              have HM3 := Lib.hid (fun x => (Knot.rmark_any a.wild x).mono (fun e y hy => show e = .returned (.string (bs (markB a.wild))) ∧ Below x.heap.size x y from ⟨hy.1, by rw [hy.2]; exact Below.refl _ _⟩))
              have H3 := Lib.hid (And.intro (hb.trans (al1.mono hb.size)) hk1)
              obtain ⟨L3, hL3⟩ : ∃ L3, L3 = M2 ++ (r.allow.take j).flatMap allowB := ⟨_, rfl⟩
              have hl3 : L3.length + (allowB a).length ≤ 60000000 := by rw [hL3, List.length_append]; omega
              rw [← hL3]
              have hR3 : wr.heap.size < (wr.alloc (.cells #[.string a.ty, .string a.rel, .bool a.wild] tAl)).heap.size := by simp
              have a1 := add_run (s := bs L3) (t := bs (textB a.ty.data.toList)) (by rw [bs_size, bs_size]; omega)
              have a2 := add_run (s := bs L3 ++ bs (textB a.ty.data.toList)) (t := bs (textB a.rel.data.toList)) (by rw [ByteArray.size_append, bs_size, bs_size, bs_size]; omega)
              have a3 := add_run (s := bs L3 ++ bs (textB a.ty.data.toList) ++ bs (textB a.rel.data.toList)) (t := bs (markB a.wild)) (by rw [ByteArray.size_append, ByteArray.size_append, bs_size, bs_size, bs_size, bs_size]; omega)
              have e2 : bs L3 ++ bs (textB a.ty.data.toList) ++ bs (textB a.rel.data.toList) ++ bs (markB a.wild) = bs (M2 ++ (r.allow.take (j + 1)).flatMap allowB) := by
                rw [Who.bs_add, Who.bs_add, Who.bs_add, hL3, hnx, hab]
                simp
              have HE3 := Lib.hid e2
              clear hnx hsum hoa hab habl hz2 al1 hk1 hb hg hL3 hl3 e2 i0 i2 i3 i4 i5
              go_upto_region 16 with fail
              generalize wr.alloc (.cells #[.string a.ty, .string a.rel, .bool a.wild] 46) = V at *
              generalize wr.heap.size = R3 at *
              clear i1 c0 c1 c2 hix
              generalize textB a.ty.data.toList = tb3 at *
              generalize textB a.rel.data.toList = tb4 at *
              generalize markB a.wild = mb at *
              refine wp_region_class (C := fun x => Below V.heap.size V x) (by kernel_rfl) (by kernel_rfl) (Below.refl _ _).drew ?_
              repeat (first
                | go_big_quiet_skip
                | (go_big_quiet_want
                   apply quiet_of
                   · intro x hx
                     obtain ⟨c0, c1, c2⟩ := box3 ((hx.block _ hR3).trans H3.out.2)
                     first
                       | (go_simp; rfl)
                       | (clear c0 c1 c2
                          go_simp
                          first
                            | (go_at_call 51; refine (HT3.out x).mono ?_; rintro e y ⟨rfl, hy⟩; exact ⟨rfl, hx.trans (hy.mono hx.size)⟩)
                            | (go_at_call 51; refine (HT4.out x).mono ?_; rintro e y ⟨rfl, hy⟩; exact ⟨rfl, hx.trans (hy.mono hx.size)⟩)
                            | (go_at_call 52; refine (HM3.out x).mono ?_; rintro e y ⟨rfl, hy⟩; exact ⟨rfl, hx.trans (hy.mono hx.size)⟩))
                   simp only [Act.put, List.setIfInBounds_toArray, List.set_cons_zero, List.set_cons_succ]
                   go_big_quiet_on))
              refine wpQuiet_nil ?_
              intro x3 hx3
              have HX3 := Lib.hid (H3.out.1.trans (hx3.mono H3.out.1.size))
              rw [HE3.out]
              clear hx3 a1 a2 a3 HE3 HT3 HT4 HM3
              go_wp2_with fail
              go_roundw
              case rel => exact ⟨j + 1, by omega, by go_num, rfl, HX3.out⟩
              case measure => simp [intOf]; omega
            · obtain rfl : j = r.allow.length := by omega
              rw [List.take_length]
              have hnode := (H2.out.2.2.2.below hb)
              have HC := Lib.hid (rnode_any 8 r.expr _ wr HQ2.out.2.2.2 (by have := HML2.out; omega) hnode)
              have a1 := add_run (s := bs (M2 ++ r.allow.flatMap allowB)) (t := bs (nodeB r.expr)) (by have := HML2.out; rw [bs_size, bs_size, List.length_append]; omega)
              have e3 : bs (M2 ++ r.allow.flatMap allowB) ++ bs (nodeB r.expr) = bs (M1 ++ (t.rels.take (k + 1)).flatMap relB) := by
                rw [Who.bs_add, HM2.out, HL2.out, HQ2.out.1, HQ2.out.2.1]
                simp
              have HE4 := Lib.hid e3
              have HB := Lib.hid hb
              clear hnode e3 hb i0 i1
              generalize bs (M2 ++ r.allow.flatMap allowB) = sp at *
              go_wp2_with fail
              refine HC.out.mono ?_
              rintro e y ⟨rfl, hy⟩
              have HY := Lib.hid (H2.out.1.trans ((HB.out.trans (hy.mono HB.out.size)).mono H2.out.1.size))
              clear hy HC HB i2 i3 i4 i5
              go_wp2_with fail
              go_roundw
              case rel => exact ⟨k + 1, by omega, by go_num, by rw [← HE4.out], HY.out⟩
              case measure => simp [intOf]; omega
        · obtain rfl : k = t.rels.length := by omega
          rw [List.take_length]
          have e3 : M1 ++ t.rels.flatMap relB = L0 ++ (l.take (i + 1)).flatMap typeB := by
            rw [HM1.out, HL1.out, HQ.out.1, HQ.out.2.1]
            simp
          have HE4 := Lib.hid e3
          have HB := Lib.hid (H1.out.1.trans (hb.mono H1.out.1.size))
          clear e3 hb
          go_wp2_with fail
          go_roundw
          case rel => exact ⟨i + 1, by omega, by go_num, by rw [HE4.out], HB.out⟩
          case measure => simp [intOf]; omega
    · obtain rfl : i = l.length := by omega
      have HE := Lib.hid (show L0 ++ (l.take l.length).flatMap typeB = confB l by rw [List.take_length, HO.out.2.2])
      have HB := Lib.hid hb
      clear hb
      go_wp2_with fail
      go_ret
      exact ⟨by rw [← HE.out]; rfl, H0.out.1.trans (HB.out.mono H0.out.1.size)⟩
end Ck
end Go.Proofs.YticcldohgbpcbaaGreatDoor
