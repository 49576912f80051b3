/-
  Layer 9: the statement LintLess, walked upon what the program's Check is to answer.
-/
import Derived.Test.YtopncohhagebbaaGreatDoorLtU
import Derived.Test.YtopncohhagebbaaGreatDoorRgN
import Derived.Test.YtopncohhagebbaaGreatDoorLgK
import Derived.Test.YtopncohhagebbaaGreatDoorMgMem
import Derived.RegionTactic
import Derived.BigRegion
import Derived.Deep.DeepCutAuto
namespace Go.Proofs.YtopncohhagebbaaGreatDoor
open Go.RowKit
namespace LawL9Less
open Tr (Nd none0 size IsElem own_slice own_below walk_rows)
open Gr (Al Rl Ty IsAl IsRl IsTy IsCf Lies alV relV tyV tAl tRl tTy tCf box1 box2 box6 cellsV new_cells elT)
open Cn (ShortC box3)
open Knot (Turns)
open Lt

set_option maxRecDepth 100000 in
theorem rels_elem : ∃ i z b, IsElem Tryz.prog 38 tRl i z 6 b ∧ b ≤ 200 := by
  refine ⟨_, _, _, ⟨by kernel_rfl, rfl, rfl, by kernel_rfl, rfl, by kernel_rfl, by omega⟩, ?_⟩
  exact of_decide_eq_true (by kernel_rfl)
theorem spot_same (t r : ByteArray) (W : World) : (binOp .eql 29 (.agg #[.string t, .string r]) (.agg #[.string t, .string r])).run Tryz.prog W = .ok (.bool true) W := by go_simp
theorem dup_pre : ∀ (a b pre : List ByteArray), dupN pre (a ++ b) = false → dupN pre a = false
  | [], _, _, _ => rfl
  | x :: a, b, pre, h => by
    rw [List.cons_append, dupN, Bool.or_eq_false_iff] at h
    rw [dupN, h.1, dup_pre a b _ h.2]
    rfl
theorem less_small {ns : List ByteArray} {more : List Rl} (hm : ∀ r ∈ more, r = zzR) (h8 : ns.length + more.length ≤ 8) : Scant (lessC ns more) ∧ Slim (lessC ns more) ∧ (items (lessC ns more)).length ≤ 1000 := by
  have key : ∀ t ∈ lessC ns more, ∀ r ∈ t.rels, r.allow.length ≤ 100000 ∧ size r.expr ≤ 300 := fun t ht r hr => by
    have ht' : t = ⟨userN, []⟩ ∨ t = lessT ns more := by simpa [lessC] using ht
    rcases ht' with rfl | rfl
    · cases hr
    · have hr' : r ∈ ns.map lessR ∨ r ∈ more := by simpa [lessT] using hr
      rcases hr' with h | h
      · obtain ⟨s, -, rfl⟩ := List.mem_map.1 h
        exact ⟨show 1 ≤ 100000 by decide, by simp [lessR, Tr.size, Tr.sizes]⟩
      · rw [hm r h]
        exact ⟨Nat.zero_le _, by simp [zzR, Tr.size, Tr.sizes]⟩
  refine ⟨fun t ht r hr => (key t ht r hr).1, fun t ht r hr => (key t ht r hr).2, ?_⟩
  rw [items, lessC, List.flatMap_cons, List.flatMap_cons, List.flatMap_nil, List.append_nil, itemsT, itemsT, List.length_append, List.length_map, List.length_map]
  show 0 + (ns.map lessR ++ more).length ≤ 1000
  rw [List.length_append, List.length_map]
  omega
theorem rel_small {ns : List ByteArray} {i : Nat} (h : i < (ns.map lessR ++ [zzR]).length) : size (ns.map lessR ++ [zzR])[i].expr ≤ 300 := by
  have hr := List.getElem_mem h
  rcases List.mem_append.1 hr with h | h
  · obtain ⟨s, -, e⟩ := List.mem_map.1 h
    rw [← e]
    simp [lessR, Tr.size, Tr.sizes]
  · rw [List.mem_singleton.1 h]
    simp [zzR, Tr.size, Tr.sizes]
theorem cut_rl (ao : Option Addr) (n cap : Nat) {j : Nat} (h : j ≤ cap) (W : World) : (Instr.slice 38 (.slice ao n cap) none (some (.int .i64 (j : Int))) none).run Tryz.prog W = .ok (.slice ao j cap) W := by
  rw [run_slice_h W 38 ao n cap Gr.elemRl .i64 j (by omega) (by omega), Gr.sizeRl]
  have e : ((j : Int)).toNat = j := by omega
  simp only [Result.andThen_ok, sliced, e, Nat.zero_mul, Nat.sub_zero]
  congr 2
  split
  · rfl
  · cases ao <;> rfl
theorem wp_run {P : Program} {o : Oper} {a : Act} {w x : World} {K : Act → World → Prop} {Q : Exit → Act → World → Prop} {t : TypeId} (s y : Operand) (ho : o.op = .call { callee := .builtin .append, args := #[s, y], argTypes := #[t, t] })
    {v u v' : Value} (hs : a.eval s = v) (hx : a.eval y = u) (hr : (Builtin.append_ #[t, t] o.type #[v, u]).run P w = .ok v' x) (h : K (a.put o.dst v') x) : o.wp P a w K Q := by
  unfold Oper.wp execOp
  simp only [ho, resolve, invoke, builtin, Sem.run_bind, Sem.run_pure, Result.andThen_ok, List.map_toArray, List.map_cons, List.map_nil, hs, hx, hr]
  exact h
theorem new_at {w : World} {b : Nat} {T : TypeId} {cs : List Value} (h : w.heap[b]? = some (.cells cs.toArray T (0, 0))) : ∀ j u, cs[j]? = some u → w.drew.cell? ((⟨b, 0, none⟩ : Addr).add j) = some u := fun j u hj => by
  rw [Tr.addp]
  show w.cell? _ = _
  rw [Lib.cell_of_heap h, Nat.zero_add]
  simpa using hj
theorem dup_snoc (s : ByteArray) : ∀ (m pre : List ByteArray), dupN pre (m ++ [s]) = (dupN pre m || (pre ++ m).any fun x => same x s)
  | [], pre => by simp [dupN]
  | a :: m, pre => by
    rw [List.cons_append, dupN, dupN, dup_snoc s m, Bool.or_assoc, List.append_assoc]
    rfl
theorem dup_take {l : List ByteArray} {j : Nat} (hj : j < l.length) : dupN [] (l.take (j + 1)) = (dupN [] (l.take j) || (l.take j).any fun x => same x l[j]) := by
  rw [List.take_add_one, List.getElem?_eq_getElem hj]
  exact dup_snoc _ _ _
theorem any_take {l : List ByteArray} {p : ByteArray → Bool} {j : Nat} (hj : j < l.length) : (l.take (j + 1)).any p = ((l.take j).any p || p l[j]) := by
  rw [List.take_add_one, List.getElem?_eq_getElem hj, List.any_append]
  simp
theorem cut_tx (ao : Option Addr) (n cap : Nat) {j : Nat} (h : j ≤ cap) (W : World) : (Instr.slice 37 (.slice ao n cap) none (some (.int .i64 (j : Int))) none).run Tryz.prog W = .ok (.slice ao j cap) W := by
  rw [run_slice_h W 37 ao n cap elemTx .i64 j (by omega) (by omega), sizeTx]
  have e : ((j : Int)).toNat = j := by omega
  simp only [Result.andThen_ok, sliced, e, Nat.zero_mul, Nat.sub_zero]
  congr 2
  split
  · rfl
  · cases ao <;> rfl
set_option maxHeartbeats 16000000 in
set_option maxRecDepth 100000 in
theorem far (ao : Option Addr) (cap : Nat) (l : List ByteArray) (w : World) (h8 : 8 < l.length)
    (hA : ∀ x, Below w.heap.size w x → Calls Tryz.prog 9 #[] x fun e y => e = .returned (.bool true) ∧ Below x.heap.size x y) :
    Calls Tryz.prog 4 #[.slice ao l.length cap] w fun e x => e = .returned (.bool true) ∧ Below w.heap.size w x := by
  have HA := Lib.hid hA
  have e8 : decide ((8 : Int) < (l.length : Int)) = true := by simp; omega
  clear hA
  go_enter Tryz.func4, Tryz.ntmps4
  go_wp2_with fail
  refine (HA.out _ (Below.refl _ _)).mono ?_
  rintro e x ⟨rfl, hx⟩
  have H1 := Lib.hid hx
  clear hx
  go_wp2_with fail
  refine (HA.out _ H1.out).mono ?_
  rintro e y ⟨rfl, hy⟩
  have H2 := Lib.hid (H1.out.trans (hy.mono H1.out.size))
  clear hy
  go_wp2_with fail
  go_ret
  exact ⟨rfl, H2.out⟩
set_option maxHeartbeats 16000000 in
set_option maxRecDepth 100000 in
theorem near (HCk : CheckOk) (ao : Option Addr) (cap : Nat) (l : List ByteArray) (us : List Value) (w : World) (hn : Lies IsTx 1 w ao l us) (hs : ∀ s ∈ l, s.size ≤ maxLen) (hcap : l.length ≤ cap) (h8 : l.length ≤ 8)
    (hA : ∀ x, Below w.heap.size w x → Calls Tryz.prog 9 #[] x fun e y => e = .returned (.bool true) ∧ Below x.heap.size x y) :
    Calls Tryz.prog 4 #[.slice ao l.length cap] w fun e x => e = .returned (.bool true) ∧ Below w.heap.size w x := by
  have HA := Lib.hid hA
  have e8 : decide ((8 : Int) < (l.length : Int)) = false := by simp; omega
  have HN := Lib.hid (And.intro hn hs)
  have hbig : l.length ≤ 9223372036854775807 := by omega
  clear hA hn hs
  go_enter Tryz.func4, Tryz.ntmps4
  go_wp2_with fail
  refine (HA.out _ (Below.refl _ _)).mono ?_
  rintro e x ⟨rfl, hx⟩
  have HX := Lib.hid hx
  clear hx
  obtain ⟨q1, q2, q3, q4⟩ := Gr.two_boxes x #[.string userN, .slice none 0 0, .string tN, .slice none 0 0] #[.slice (some ⟨x.heap.size, 0, none⟩) 2 2] tTy tCf
  have HG0 := Lib.hid (show Grow x.heap.size ((x.alloc (.cells #[.string userN, .slice none 0 0, .string tN, .slice none 0 0] tTy)).alloc (.cells #[.slice (some ⟨x.heap.size, 0, none⟩) 2 2] tCf)) [] (.slice none 0 0) ∧ Below x.heap.size x ((x.alloc (.cells #[.string userN, .slice none 0 0, .string tN, .slice none 0 0] tTy)).alloc (.cells #[.slice (some ⟨x.heap.size, 0, none⟩) 2 2] tCf)) from
    ⟨⟨q3, q2, [], World.ownsRow_nil _ _ _ _, rfl, fun i a u hi => by simp at hi⟩, q1⟩)
  clear q1 q2 q3 q4
  go_upto_region 4 with fail
  clear e8
  change Code.wp _ _ _ _ ((x.alloc (.cells #[.string userN, .slice none 0 0, .string tN, .slice none 0 0] tTy)).alloc (.cells #[.slice (some ⟨x.heap.size, 0, none⟩) 2 2] tCf))
  generalize (x.alloc (.cells #[.string userN, .slice none 0 0, .string tN, .slice none 0 0] tTy)).alloc (.cells #[.slice (some ⟨x.heap.size, 0, none⟩) 2 2] tCf) = Y at *
  have HT := Lib.hid (show w.heap.size ≤ x.heap.size from HX.out.size)
  generalize x.heap.size = T at *
  go_wp2_with fail
  go_loopw [4, 31] (fun sv i wr => ∃ j : Nat, j ≤ l.length ∧ i = .int .i64 j ∧ sv = .bool (dupN [] (l.take j)) ∧ ∃ rv, Hid (Grow T wr ((l.take j).map lessR) rv ∧ Below w.heap.size w wr ∧ ∀ s ∈ l.take j, Tr.word s = true)) (fun _ i _ => l.length - (intOf i).toNat)
  case atStart => exact ⟨0, by omega, rfl, rfl, _, Lib.hid ⟨HG0.out.1, HX.out.trans (HG0.out.2.mono HT.out), fun s hs => by simp at hs⟩⟩
  case round =>
    obtain ⟨j, hj, rfl, rfl, rv, HJ⟩ := hrel
    by_cases hlt : j < l.length
    · obtain ⟨g, q, hix, hg, c0'⟩ := tx_at HN.out.1 cap hlt
      have c0 := (HJ.out.2.1.cell (p := ⟨g, q, none⟩) hg).trans c0'
      have hdt := dup_take hlt
      have hmt : (l.take (j + 1)).map lessR = (l.take j).map lessR ++ [lessR l[j]] := by rw [List.take_add_one, List.getElem?_eq_getElem hlt, List.map_append]; rfl
      have htk := tx_take HN.out.1 (Nat.le_of_lt hlt)
      have hwt : Tr.word l[j] = true → ∀ s ∈ l.take (j + 1), Tr.word s = true := fun hw s hs => by
        rw [List.take_add_one, List.getElem?_eq_getElem hlt] at hs
        rcases List.mem_append.1 hs with h | h
        · exact HJ.out.2.2 s h
        · have : s = l[j] := by simpa using h
          rw [this]; exact hw
      have hlen : (l.take j).length = j := by rw [List.length_take]; omega
      have HWd := Lib.hid (Tr.rword_any l[j] wr (HN.out.2 _ (List.getElem_mem hlt)))
      generalize l[j] = s at *
      generalize l.take j = L at *
      have HQ := Lib.hid (And.intro hdt (And.intro hmt (And.intro htk (And.intro hwt hlen))))
      clear hdt hmt htk hwt hg c0'
      go_wp2_with fail
      refine HWd.out.mono ?_
      rintro e x1 ⟨rfl, hx1⟩
      have H1 := Lib.hid (And.intro (HJ.out.1.below hx1) (HJ.out.2.1.trans (hx1.mono HJ.out.2.1.size)))
      clear hx1 c0 HWd
      cases hw : Tr.word s with
      | false =>
        go_wp2_with fail
        go_ret
        exact ⟨rfl, H1.out.2⟩
      | true =>
        have HWt := Lib.hid (HQ.out.2.2.2.1 hw)
        have hcut := cut_tx ao l.length cap (j := j) (by omega)
        have hLj := HQ.out.2.2.2.2
        have hj9 : j ≤ 9223372036854775807 := by omega
        clear hw HJ
        go_wp2_with fail
        clear hcut
        have HY := Lib.hid (show Grow T x1 (L.map lessR) rv ∧ Below w.heap.size w x1 from ⟨H1.out.1, H1.out.2⟩)
        generalize dupN [] L = D at *
        go_loopw [4, 43] (fun sv i wr => ∃ k : Nat, k ≤ j ∧ i = .int .i64 k ∧ sv = .bool (D || (L.take k).any fun x => same x s) ∧ Hid (Below x1.heap.size x1 wr)) (fun _ i _ => j - (intOf i).toNat)
        case atStart => exact ⟨0, by omega, rfl, by simp, Lib.hid (Below.refl _ _)⟩
        case round =>
          obtain ⟨k, hk, rfl, rfl, HK⟩ := hrel
          by_cases hkt : k < j
          · obtain ⟨g2, q2, hix2, hg2, d0'⟩ := tx_at HQ.out.2.2.1 cap (i := k) (by omega)
            have d0 := (HK.out.cell (p := ⟨g2, q2, none⟩) (Nat.lt_of_lt_of_le hg2 H1.out.2.size)).trans ((H1.out.2.cell (p := ⟨g2, q2, none⟩) hg2).trans d0')
            have hat := any_take (p := fun x => same x s) (l := L) (j := k) (by omega)
            rw [hLj] at hix2
            generalize hLk : L[k] = z at *
            clear hg2 d0'
            have hat2 : (D || (L.take (k + 1)).any fun x => same x s) = ((D || (L.take k).any fun x => same x s) || (z.toList == s.toList)) := by
              rw [hat, Bool.or_assoc]; rfl
            have HAt := Lib.hid hat2
            clear hat hat2
            generalize (D || (L.take k).any fun x => same x s) = E at *
            cases E with
            | true =>
              go_wp2_with fail
              go_roundw
              case rel => exact ⟨k + 1, by omega, by go_num, by rw [HAt.out]; rfl, HK⟩
              case measure => simp [intOf]; omega
            | false =>
              go_wp2_with fail
              go_roundw
              case rel => exact ⟨k + 1, by omega, by go_num, by rw [HAt.out]; simp, HK⟩
              case measure => simp [intOf]; omega
          · have hk' : k = j := by omega
            subst hk'
            have hD : (D || (L.take k).any fun x => same x s) = dupN [] (l.take (k + 1)) := by rw [HQ.out.1, ← hLj, List.take_length]
            have HD := Lib.hid hD
            have HZ := Lib.hid (show Grow T wr (L.map lessR) rv ∧ Below w.heap.size w wr from ⟨HY.out.1.below HK.out, HY.out.2.trans (HK.out.mono HY.out.2.size)⟩)
            clear hD HK HY H1
            generalize (D || (L.take k).any fun x => same x s) = E at *
            go_upto_region 15 with fail
            obtain ⟨vs, hrow, hvl, hel⟩ := HZ.out.1.row
            obtain ⟨oo, oc, rfl⟩ := own_slice hrow
            obtain ⟨ti, tz, tb, TE, hTb⟩ := rels_elem
            obtain ⟨p1, p2, p3, p4⟩ := Gr.two_boxes wr #[.string userN, .string none0, .bool false] #[.string s, .slice (some ⟨wr.heap.size, 0, none⟩) 1 1, .int .i64 1, .string none0, .string none0, .slice none 0 0] tAl tRl
            have al1 := Tr.fresh_one wr (.cells #[.string userN, .string none0, .bool false] tAl)
            have hbx := HZ.out.1.box
            have hty := HZ.out.1.tys
            have hLn : (L.map lessR).length = k := by rw [List.length_map]; exact hLj
            rw [hLn] at hrow hty
            have hb0 := (Array.getElem?_eq_some_iff.1 hbx).1
            have hb1 := (Array.getElem?_eq_some_iff.1 hty).1
            have f0 := box1 hbx
            have f1 : wr.cell? ⟨T, 3, none⟩ = some (.slice oo k oc) := by rw [Lib.cell_of_heap hty]; rfl
            have g0 := (al1.cell (p := ⟨T + 1, 0, none⟩) hb0).trans f0
            have g1 := (al1.cell (p := ⟨T, 3, none⟩) hb1).trans f1
            have k0 := (p1.cell (p := ⟨T + 1, 0, none⟩) hb0).trans f0
            have k1 := (p1.cell (p := ⟨T, 3, none⟩) hb1).trans f1
            have HB := Lib.hid (And.intro p1 (And.intro p2 (And.intro p3 (And.intro hrow (And.intro hvl hel)))))
            simp only [userN, none0] at g0 g1 k0 k1
            have HTT := Lib.hid (show T + 2 ≤ wr.heap.size by omega)
            have HTY := Lib.hid (And.intro hty (And.intro hLn hbx))
            clear hLn p1 p2 p3 p4 al1 hbx hty hb0 hb1 hrow hvl hel
            obtain ⟨v2, z2, hrun, r2, gr2, n2⟩ := Tr.append_rows TE 38 (own_below HB.out.2.2.2.1 (HB.out.1.trans (Below.refl _ _).drew)) (Nat.le_trans HTT.out HB.out.1.size) (m := 1) (c := 1) rfl (new_at HB.out.2.2.1) (by intro u hu; simp at hu; rcases hu with rfl | rfl | rfl | rfl | rfl | rfl <;> rfl) (by omega) (Nat.le_trans (Nat.mul_le_mul_left _ hTb) (by omega))
            obtain ⟨v2a, v2c, rfl⟩ := own_slice r2
            have hz2 : Turns (fun b => (Value.slice oo k oc).ownBlock = some b) wr z2 := Turns.after_below (HB.out.1.trans (Below.refl _ _).drew) (Turns.of_grown gr2 fun b hb => hb)
            have hty2 := hz2.heap HTY.out.1 (fun e => by have := (World.ownsRow.lt HB.out.2.2.2.1 _ e).1; omega)
            have q3 : z2.cell? ⟨T, 3, none⟩ = some (.slice oo k oc) := by rw [Lib.cell_of_heap hty2]; rfl
            have q4 := box1 (hz2.heap HTY.out.2.2 (fun e => by have := (World.ownsRow.lt HB.out.2.2.2.1 _ e).1; omega))
            have fz3 := Lib.frozen_of_heap hty2 3
            have HR2 := Lib.hid (And.intro r2 gr2)
            have HRn := Lib.hid hrun
            clear r2 gr2 n2 hz2 hty2 hrun TE hTb
            have hLk : (L.map lessR).take k = L.map lessR := List.take_of_length_le (by have := HTY.out.2.1; omega)
            have HGr := HZ.out.1.put (HB.out.1.trans (Below.refl _ _).drew) (m := k) (ao := oo) (cap := oc) (by have := HTY.out.2.1; omega) HB.out.2.2.2.1 (by rw [HB.out.2.2.2.2.1, HTY.out.2.1]) (by rw [hLk]; exact HB.out.2.2.2.2.2) (X := lessR s) (ux := relV (lessR s) (.slice (some ⟨wr.heap.size, 0, none⟩) 1 1) (.slice none 0 0)) (.inl ⟨wr.heap.size, s, rfl, rfl, HTT.out, HB.out.2.1⟩) HR2.out.1 HR2.out.2
            rw [hLk] at HGr
            have HF := Lib.hid (And.intro HGr.1 (HZ.out.2.trans (HGr.2.below HZ.out.2.size fun b hb => by
              have := HT.out
              rcases hb with hb | hb
              · have := (World.ownsRow.lt HB.out.2.2.2.1 _ hb).1; omega
              · omega)))
            have hlow : ∀ b, (Value.slice oo k oc).ownBlock = some b → T + 2 ≤ b := fun b hb => (World.ownsRow.lt HB.out.2.2.2.1 _ hb).1
            have HT3 := Lib.hid (And.intro (show Turns (fun g => T ≤ g ∧ g ≠ T + 1) _ z2 from (Turns.of_grown HR2.out.2 fun b hb => hb).mono fun b _ hb => by have := hlow b hb; exact ⟨by omega, by omega⟩) (show Turns (fun g => T ≤ g ∧ g ≠ T + 1) z2 (z2.setCell ⟨T, 3, none⟩ (.slice v2a (k + 1) v2c)) from (Turns.refl (fun g => T ≤ g ∧ g ≠ T + 1) z2).setCell (p := ⟨T, 3, none⟩) ⟨Nat.le_refl _, by show T ≠ T + 1; omega⟩ _))
            have HX := Lib.hid (show ∀ x, Turns (fun g => T ≤ g ∧ g ≠ T + 1) wr.drew x → x.cell? ⟨T + 1, 0, none⟩ = some (.slice (some ⟨T, 0, none⟩) 2 2) from fun x hx => box1 (hx.heap (show wr.drew.heap[T + 1]? = _ from HTY.out.2.2) fun h => h.2 rfl))
            have al1 : Below wr.drew.heap.size wr.drew (wr.alloc (.cells #[.string userN, .string none0, .bool false] tAl)).drew := ⟨rfl, rfl, rfl, (Tr.fresh_one wr (.cells #[.string userN, .string none0, .bool false] tAl)).size, fun i hi => (Tr.fresh_one wr (.cells #[.string userN, .string none0, .bool false] tAl)).block i hi⟩
            have al2 : Below (wr.alloc (.cells #[.string userN, .string none0, .bool false] tAl)).drew.heap.size (wr.alloc (.cells #[.string userN, .string none0, .bool false] tAl)).drew ((wr.alloc (.cells #[.string userN, .string none0, .bool false] tAl)).alloc (.cells #[.string s, .slice (some ⟨wr.heap.size, 0, none⟩) 1 1, .int .i64 1, .string none0, .string none0, .slice none 0 0] tRl)).drew := ⟨rfl, rfl, rfl, (Tr.fresh_one (wr.alloc (.cells #[.string userN, .string none0, .bool false] tAl)) (.cells #[.string s, .slice (some ⟨wr.heap.size, 0, none⟩) 1 1, .int .i64 1, .string none0, .string none0, .slice none 0 0] tRl)).size, fun i hi => (Tr.fresh_one (wr.alloc (.cells #[.string userN, .string none0, .bool false] tAl)) (.cells #[.string s, .slice (some ⟨wr.heap.size, 0, none⟩) 1 1, .int .i64 1, .string none0, .string none0, .slice none 0 0] tRl)).block i hi⟩
            have HTa := Lib.hid (And.intro (Turns.of_below (F := (fun g => T ≤ g ∧ g ≠ T + 1)) al1) (Turns.of_below (F := (fun g => T ≤ g ∧ g ≠ T + 1)) al2))
            clear HGr hLk hlow al1 al2 f0 g0 k0
            go_wp2_with fail
            refine Order.region_begin (S := Turns (fun g => T ≤ g ∧ g ≠ T + 1) wr.drew) (by kernel_rfl) ?_
            refine Order.reads_any (idx := [0, 1, 2, 3, 4, 5, 7, 8, 10]) (by kernel_rfl) (Turns.refl _ _) (fun _ _ _ _ _ h => Order.noPanic_put h) 8 _ _ (by decide +kernel) ?_
            simp only [Order.pick, List.getElem?_toArray, List.getElem?_cons_zero, List.getElem?_cons_succ]
            repeat (first
              | (refine Order.reads_off (by rfl) ?_
                 simp only [Act.put, List.setIfInBounds_toArray, List.set_cons_zero, List.set_cons_succ])
              | (apply Order.reads_on
                 · rfl
                 · intro x hx
                   first
                     | (go_simp; rfl)
                     | (have i0 := HX.out x hx
                        go_simp; rfl)
                 simp only [Act.put, List.setIfInBounds_toArray, List.set_cons_zero, List.set_cons_succ]))
            refine Order.reads_end ?_
            apply acts_two (R := Turns (fun g => T ≤ g ∧ g ≠ T + 1)) (fun h k => h.trans k fun _ _ h => h) (i := 6) (j := 9)
            · rfl
            · rfl
            · decide +kernel
            · rfl
            · rfl
            · unfold Oper.wp
              go_simp
              refine ⟨Turns.refl _ _, ?_⟩
              apply Order.acts_any (R := (Turns (fun g => T ≤ g ∧ g ≠ T + 1))) (fun h k => h.trans k fun _ _ h => h) (i := 9)
              · rfl
              · decide +kernel
              · rfl
              unfold Oper.wp
              go_simp
              refine ⟨HTa.out.1, ?_⟩
              refine Order.reads_any (idx := [11]) (by kernel_rfl) (Turns.refl _ _) (fun _ _ _ _ _ h => Order.noPanic_put h) 5 _ _ (by decide +kernel) ?_
              simp only [Order.pick, List.getElem?_toArray, List.getElem?_cons_zero, List.getElem?_cons_succ]
              repeat (first
                | (refine Order.reads_off (by rfl) ?_
                   simp only [Act.put, List.setIfInBounds_toArray, List.set_cons_zero, List.set_cons_succ])
                | (apply Order.reads_on
                   · rfl
                   · intro x hx
                     first
                       | (go_simp; rfl)
                       | (fail
                          go_simp; rfl)
                   simp only [Act.put, List.setIfInBounds_toArray, List.set_cons_zero, List.set_cons_succ]))
              refine Order.reads_end ?_
              apply Order.acts_any (R := (Turns (fun g => T ≤ g ∧ g ≠ T + 1))) (fun h k => h.trans k fun _ _ h => h) (i := 12)
              · rfl
              · decide +kernel
              · rfl
              unfold Oper.wp
              go_simp
              refine ⟨HTa.out.2, ?_⟩
              apply Order.acts_any (R := (Turns (fun g => T ≤ g ∧ g ≠ T + 1))) (fun h k => h.trans k fun _ _ h => h) (i := 13)
              · rfl
              · decide +kernel
              · rfl
              simp only [List.getElem_toArray, List.getElem_cons_succ, List.getElem_cons_zero]
              refine wp_run _ _ rfl (by rfl) (by rfl) HRn.out ?_
              refine ⟨HT3.out.1, ?_⟩
              simp only [Act.put, List.setIfInBounds_toArray, List.set_cons_zero, List.set_cons_succ]
              refine Order.reads_any (idx := [14, 15]) (by kernel_rfl) (Turns.refl _ _) (fun _ _ _ _ _ h => Order.noPanic_put h) 1 _ _ (by decide +kernel) ?_
              simp only [Order.pick, List.getElem?_toArray, List.getElem?_cons_zero, List.getElem?_cons_succ]
              repeat (first
                | (refine Order.reads_off (by rfl) ?_
                   simp only [Act.put, List.setIfInBounds_toArray, List.set_cons_zero, List.set_cons_succ])
                | (apply Order.reads_on
                   · rfl
                   · intro x hx
                     first
                       | (go_simp; rfl)
                       | (fail
                          go_simp; rfl)
                   simp only [Act.put, List.setIfInBounds_toArray, List.set_cons_zero, List.set_cons_succ]))
              refine Order.reads_end ?_
              apply Order.acts_any (R := (Turns (fun g => T ≤ g ∧ g ≠ T + 1))) (fun h k => h.trans k fun _ _ h => h) (i := 16)
              · rfl
              · decide +kernel
              · rfl
              unfold Oper.wp
              go_simp
              refine ⟨HT3.out.2, ?_⟩
              refine wpAnyH_done (by decide +kernel) ?_ _
              refine NoPanic.normal ?_
              generalize z2.setCell ⟨T, 3, none⟩ (.slice v2a (k + 1) v2c) = F at *
              go_wp2_with fail
              go_roundw
              case rel => exact ⟨k + 1, by omega, by go_num, by rw [HD.out], _, Lib.hid ⟨by rw [HQ.out.2.1]; exact HF.out.1, HF.out.2, HWt.out⟩⟩
              case measure => simp [intOf]; omega
            · unfold Oper.wp
              go_simp
              refine ⟨HTa.out.1, ?_⟩
              refine Order.reads_any (idx := [11]) (by kernel_rfl) (Turns.refl _ _) (fun _ _ _ _ _ h => Order.noPanic_put h) 6 _ _ (by decide +kernel) ?_
              simp only [Order.pick, List.getElem?_toArray, List.getElem?_cons_zero, List.getElem?_cons_succ]
              repeat (first
                | (refine Order.reads_off (by rfl) ?_
                   simp only [Act.put, List.setIfInBounds_toArray, List.set_cons_zero, List.set_cons_succ])
                | (apply Order.reads_on
                   · rfl
                   · intro x hx
                     first
                       | (go_simp; rfl)
                       | (fail
                          go_simp; rfl)
                   simp only [Act.put, List.setIfInBounds_toArray, List.set_cons_zero, List.set_cons_succ]))
              refine Order.reads_end ?_
              apply acts_two (R := Turns (fun g => T ≤ g ∧ g ≠ T + 1)) (fun h k => h.trans k fun _ _ h => h) (i := 6) (j := 12)
              · rfl
              · rfl
              · decide +kernel
              · rfl
              · rfl
              · unfold Oper.wp
                go_simp
                refine ⟨Turns.refl _ _, ?_⟩
                apply Order.acts_any (R := (Turns (fun g => T ≤ g ∧ g ≠ T + 1))) (fun h k => h.trans k fun _ _ h => h) (i := 12)
                · rfl
                · decide +kernel
                · rfl
                unfold Oper.wp
                go_simp
                refine ⟨HTa.out.2, ?_⟩
                apply Order.acts_any (R := (Turns (fun g => T ≤ g ∧ g ≠ T + 1))) (fun h k => h.trans k fun _ _ h => h) (i := 13)
                · rfl
                · decide +kernel
                · rfl
                simp only [List.getElem_toArray, List.getElem_cons_succ, List.getElem_cons_zero]
                refine wp_run _ _ rfl (by rfl) (by rfl) HRn.out ?_
                refine ⟨HT3.out.1, ?_⟩
                simp only [Act.put, List.setIfInBounds_toArray, List.set_cons_zero, List.set_cons_succ]
                refine Order.reads_any (idx := [14, 15]) (by kernel_rfl) (Turns.refl _ _) (fun _ _ _ _ _ h => Order.noPanic_put h) 1 _ _ (by decide +kernel) ?_
                simp only [Order.pick, List.getElem?_toArray, List.getElem?_cons_zero, List.getElem?_cons_succ]
                repeat (first
                  | (refine Order.reads_off (by rfl) ?_
                     simp only [Act.put, List.setIfInBounds_toArray, List.set_cons_zero, List.set_cons_succ])
                  | (apply Order.reads_on
                     · rfl
                     · intro x hx
                       first
                         | (go_simp; rfl)
                         | (fail
                            go_simp; rfl)
                     simp only [Act.put, List.setIfInBounds_toArray, List.set_cons_zero, List.set_cons_succ]))
                refine Order.reads_end ?_
                apply Order.acts_any (R := (Turns (fun g => T ≤ g ∧ g ≠ T + 1))) (fun h k => h.trans k fun _ _ h => h) (i := 16)
                · rfl
                · decide +kernel
                · rfl
                unfold Oper.wp
                go_simp
                refine ⟨HT3.out.2, ?_⟩
                refine wpAnyH_done (by decide +kernel) ?_ _
                refine NoPanic.normal ?_
                generalize z2.setCell ⟨T, 3, none⟩ (.slice v2a (k + 1) v2c) = F at *
                go_wp2_with fail
                go_roundw
                case rel => exact ⟨k + 1, by omega, by go_num, by rw [HD.out], _, Lib.hid ⟨by rw [HQ.out.2.1]; exact HF.out.1, HF.out.2, HWt.out⟩⟩
                case measure => simp [intOf]; omega
              · unfold Oper.wp
                go_simp
                refine ⟨HTa.out.2, ?_⟩
                apply Order.acts_any (R := (Turns (fun g => T ≤ g ∧ g ≠ T + 1))) (fun h k => h.trans k fun _ _ h => h) (i := 6)
                · rfl
                · decide +kernel
                · rfl
                unfold Oper.wp
                go_simp
                refine ⟨Turns.refl _ _, ?_⟩
                apply Order.acts_any (R := (Turns (fun g => T ≤ g ∧ g ≠ T + 1))) (fun h k => h.trans k fun _ _ h => h) (i := 13)
                · rfl
                · decide +kernel
                · rfl
                simp only [List.getElem_toArray, List.getElem_cons_succ, List.getElem_cons_zero]
                refine wp_run _ _ rfl (by rfl) (by rfl) HRn.out ?_
                refine ⟨HT3.out.1, ?_⟩
                simp only [Act.put, List.setIfInBounds_toArray, List.set_cons_zero, List.set_cons_succ]
                refine Order.reads_any (idx := [14, 15]) (by kernel_rfl) (Turns.refl _ _) (fun _ _ _ _ _ h => Order.noPanic_put h) 1 _ _ (by decide +kernel) ?_
                simp only [Order.pick, List.getElem?_toArray, List.getElem?_cons_zero, List.getElem?_cons_succ]
                repeat (first
                  | (refine Order.reads_off (by rfl) ?_
                     simp only [Act.put, List.setIfInBounds_toArray, List.set_cons_zero, List.set_cons_succ])
                  | (apply Order.reads_on
                     · rfl
                     · intro x hx
                       first
                         | (go_simp; rfl)
                         | (fail
                            go_simp; rfl)
                     simp only [Act.put, List.setIfInBounds_toArray, List.set_cons_zero, List.set_cons_succ]))
                refine Order.reads_end ?_
                apply Order.acts_any (R := (Turns (fun g => T ≤ g ∧ g ≠ T + 1))) (fun h k => h.trans k fun _ _ h => h) (i := 16)
                · rfl
                · decide +kernel
                · rfl
                unfold Oper.wp
                go_simp
                refine ⟨HT3.out.2, ?_⟩
                refine wpAnyH_done (by decide +kernel) ?_ _
                refine NoPanic.normal ?_
                generalize z2.setCell ⟨T, 3, none⟩ (.slice v2a (k + 1) v2c) = F at *
                go_wp2_with fail
                go_roundw
                case rel => exact ⟨k + 1, by omega, by go_num, by rw [HD.out], _, Lib.hid ⟨by rw [HQ.out.2.1]; exact HF.out.1, HF.out.2, HWt.out⟩⟩
                case measure => simp [intOf]; omega
    · have hj' : j = l.length := by omega
      subst hj'
      have hgw := HJ.out
      rw [List.take_length] at hgw ⊢
      have HG := Lib.hid hgw
      have hgd := good_less (ns := l) (more := []) hgw.2.2 rfl
      obtain ⟨hsc, hsl, hit⟩ := less_small (ns := l) (more := []) (fun r hr => by cases hr) (by simpa using h8)
      have hcf : IsCf wr (lessC l []) (.agg #[.slice (some ⟨T, 0, none⟩) 2 2]) := by
        have := hgw.1.cf
        rw [lessC, lessT, List.append_nil]
        exact this
      have HC1 := Lib.hid (HCk (lessC l []) _ wr hcf (gC_short hgd) hsc hsl hit)
      have HGd := Lib.hid hgd
      have b0 := box1 hgw.1.box
      clear hgw hgd hsc hsl hit hcf HJ hj
      generalize hdd : dupN [] l = D at *
      have HDD := Lib.hid hdd
      clear hdd
      go_wp2_with fail
      refine HC1.out.mono ?_
      rintro e y1 ⟨u, t, r, code, S, its, rfl, hck, hpi, hx⟩
      have hbx := hx.trans ((Tr.fresh_one y1 (.cells #[.string t, .string r] 29)).mono hx.size)
      have H2 := Lib.hid (And.intro (HG.out.1.below hbx) (HG.out.2.1.trans (hbx.mono HG.out.2.1.size)))
      have HCo := Lib.hid hck
      obtain ⟨pao, pcap, rfl, -⟩ := id hpi
      clear hck hpi hx hbx b0 HC1
      cases D with
      | true =>
        have h14 := HCo.out.less_dup HGd.out (by simpa [lessT] using h8) HDD.out
        subst h14
        go_wp2_with fail
        go_ret
        exact ⟨rfl, H2.out.2⟩
      | false =>
        obtain ⟨hc0, hlen⟩ := HCo.out.less_fine HGd.out h8 HDD.out
        subst hc0
        rw [hlen]
        clear hlen HCo
        go_upto_region 22 with fail
        generalize y1.alloc (.cells #[.string t, .string r] 29) = W1 at *
        generalize y1.heap.size = RS at *
        obtain ⟨m, hm⟩ : ∃ m, m = min l.length 7 := ⟨_, rfl⟩
        have hmn : m ≤ l.length := by omega
        have hm7 : m ≤ 7 := by omega
        obtain ⟨oo, oc, rfl, vs, hrow, hvl, hel⟩ := H2.out.1.cut m (by rw [List.length_map]; exact hmn)
        rw [List.length_map] at *
        obtain ⟨ti, tz, tb, TE, hTb⟩ := rels_elem
        have al := Tr.fresh_one W1 (.cells #[.string zzN, .slice none 0 0, .int .i64 2, .string zzzN, .string none0, .slice none 0 0] tRl)
        have hnew := heap_alloc_new W1 (.cells #[.string zzN, .slice none 0 0, .int .i64 2, .string zzzN, .string none0, .slice none 0 0] tRl)
        have hbx := H2.out.1.box
        have hty := H2.out.1.tys
        have hb0 := (Array.getElem?_eq_some_iff.1 hbx).1
        have hb1 := (Array.getElem?_eq_some_iff.1 hty).1
        have f1 : W1.cell? ⟨T, 3, none⟩ = some (.slice oo l.length oc) := by rw [Lib.cell_of_heap hty]; rfl
        have g1 := (al.cell (p := ⟨T, 3, none⟩) hb1).trans f1
        simp only [zzN, zzzN, none0] at g1
        have hmc : m ≤ oc := by
          rcases hrow.2 with ⟨-, h0⟩ | ⟨g, cap', cur, hv, -, -, h1, -⟩
          · omega
          · obtain ⟨-, rfl⟩ : oo = some ⟨g, 0, none⟩ ∧ oc = cap' := by simpa using hv
            exact h1
        have hcutr := cut_rl oo l.length oc hmc
        have hif : min (l.length : Int) 7 = (m : Int) := by omega
        rw [← hif] at hcutr
        clear hif
        have HB := Lib.hid (And.intro al (And.intro hnew (And.intro hrow (And.intro hvl hel))))
        have HTT := Lib.hid (show T + 2 ≤ W1.heap.size by omega)
        have HTY := Lib.hid (And.intro hty hbx)
        clear al hnew hbx hty hb0 hb1 hrow hvl hel hmc
        obtain ⟨v2, z2, hrun, r2, gr2, n2⟩ := Tr.append_rows TE 38 (own_below HB.out.2.2.1 (HB.out.1.trans (Below.refl _ _).drew)) (Nat.le_trans HTT.out HB.out.1.size) (m := 1) (c := 1) rfl (new_at HB.out.2.1) (by intro u hu; simp at hu; rcases hu with rfl | rfl | rfl | rfl | rfl | rfl <;> rfl) (by omega) (Nat.le_trans (Nat.mul_le_mul_left _ hTb) (by omega))
        obtain ⟨v2a, v2c, rfl⟩ := own_slice r2
        have hlow : ∀ b, (Value.slice oo m oc).ownBlock = some b → T + 2 ≤ b := fun b hb => (World.ownsRow.lt HB.out.2.2.1 _ hb).1
        have hz2 : Turns (fun b => (Value.slice oo m oc).ownBlock = some b) W1 z2 := Turns.after_below (HB.out.1.trans (Below.refl _ _).drew) (Turns.of_grown gr2 fun b hb => hb)
        have hty2 := hz2.heap HTY.out.1 (fun e => by have := hlow _ e; omega)
        have q3 : z2.cell? ⟨T, 3, none⟩ = some (.slice oo l.length oc) := by rw [Lib.cell_of_heap hty2]; rfl
        have fz3 := Lib.frozen_of_heap hty2 3
        have hGr := H2.out.1.put (HB.out.1.trans (Below.refl _ _).drew) (m := m) (ao := oo) (cap := oc) (by rw [List.length_map]; exact hmn) HB.out.2.2.1 HB.out.2.2.2.1 HB.out.2.2.2.2 (X := zzR) (ux := relV zzR (.slice none 0 0) (.slice none 0 0)) (.inr ⟨rfl, rfl⟩) r2 gr2
        have HF := Lib.hid (show Grow T (z2.setCell ⟨T, 3, none⟩ (.slice v2a (m + 1) v2c)) ((l.take m).map lessR ++ [zzR]) (.slice v2a (m + 1) v2c) ∧ Below w.heap.size w (z2.setCell ⟨T, 3, none⟩ (.slice v2a (m + 1) v2c)) from by
          have h1 := hGr.1
          rw [← List.map_take] at h1
          refine ⟨h1, H2.out.2.trans (hGr.2.below H2.out.2.size fun b hb => ?_)⟩
          have := HT.out
          rcases hb with hb | hb
          · have := hlow _ hb; omega
          · omega)
        have HT3 := Lib.hid (And.intro (show Turns (fun g => T ≤ g ∧ g ≠ T + 1) _ z2 from (Turns.of_grown gr2 fun b hb => hb).mono fun b _ hb => by have := hlow b hb; exact ⟨by omega, by omega⟩) (show Turns (fun g => T ≤ g ∧ g ≠ T + 1) z2 (z2.setCell ⟨T, 3, none⟩ (.slice v2a (m + 1) v2c)) from (Turns.refl (fun g => T ≤ g ∧ g ≠ T + 1) z2).setCell (p := ⟨T, 3, none⟩) ⟨Nat.le_refl _, by show T ≠ T + 1; omega⟩ _))
        have HX := Lib.hid (show ∀ x, Turns (fun g => T ≤ g ∧ g ≠ T + 1) W1.drew x → x.cell? ⟨T + 1, 0, none⟩ = some (.slice (some ⟨T, 0, none⟩) 2 2) from fun x hx => box1 (hx.heap (show W1.drew.heap[T + 1]? = _ from HTY.out.2) fun h => h.2 rfl))
        have al1 : Below W1.drew.heap.size W1.drew (W1.alloc (.cells #[.string zzN, .slice none 0 0, .int .i64 2, .string zzzN, .string none0, .slice none 0 0] tRl)).drew := ⟨rfl, rfl, rfl, (Tr.fresh_one W1 (.cells #[.string zzN, .slice none 0 0, .int .i64 2, .string zzzN, .string none0, .slice none 0 0] tRl)).size, fun i hi => (Tr.fresh_one W1 (.cells #[.string zzN, .slice none 0 0, .int .i64 2, .string zzzN, .string none0, .slice none 0 0] tRl)).block i hi⟩
        have HTa := Lib.hid (Turns.of_below (F := (fun g => T ≤ g ∧ g ≠ T + 1)) al1)
        have HRn := Lib.hid hrun
        clear hGr hlow al1 hrun r2 gr2 n2 hz2 hty2 TE hTb
        subst hm
        go_cut [105] (fun _ wx => z2.setCell ⟨T, 3, none⟩ (.slice v2a (min l.length 7 + 1) v2c) = wx)
        case first =>
          go_wp2_with fail
          refine Order.region_begin (S := Turns (fun g => T ≤ g ∧ g ≠ T + 1) W1.drew) (by kernel_rfl) ?_
          refine Order.reads_any (idx := [0, 1, 2, 3, 4, 5, 7, 8, 9, 11, 12]) (by kernel_rfl) (Turns.refl _ _) (fun _ _ _ _ _ h => Order.noPanic_put h) 7 _ _ (by decide +kernel) ?_
          simp only [Order.pick, List.getElem?_toArray, List.getElem?_cons_zero, List.getElem?_cons_succ]
          repeat (first
            | (refine Order.reads_off (by rfl) ?_
               simp only [Act.put, List.setIfInBounds_toArray, List.set_cons_zero, List.set_cons_succ])
            | (apply Order.reads_on
               · rfl
               · intro x hx
                 first
                   | (go_simp; rfl)
                   | (have i0 := HX.out x hx
                      go_simp; rfl)
               simp only [Act.put, List.setIfInBounds_toArray, List.set_cons_zero, List.set_cons_succ]))
          refine Order.reads_end ?_
          apply acts_two (R := Turns (fun g => T ≤ g ∧ g ≠ T + 1)) (fun h k => h.trans k fun _ _ h => h) (i := 6) (j := 13)
          · rfl
          · rfl
          · decide +kernel
          · rfl
          · rfl
          · unfold Oper.wp
            go_simp
            refine ⟨Turns.refl _ _, ?_⟩
            refine Order.reads_any (idx := [10]) (by kernel_rfl) (Turns.refl _ _) (fun _ _ _ _ _ h => Order.noPanic_put h) 5 _ _ (by decide +kernel) ?_
            simp only [Order.pick, List.getElem?_toArray, List.getElem?_cons_zero, List.getElem?_cons_succ]
            repeat (first
              | (refine Order.reads_off (by rfl) ?_
                 simp only [Act.put, List.setIfInBounds_toArray, List.set_cons_zero, List.set_cons_succ])
              | (apply Order.reads_on
                 · rfl
                 · intro x hx
                   first
                     | (go_simp; rfl)
                     | (fail
                        go_simp; rfl)
                 simp only [Act.put, List.setIfInBounds_toArray, List.set_cons_zero, List.set_cons_succ]))
            refine Order.reads_end ?_
            apply Order.acts_any (R := (Turns (fun g => T ≤ g ∧ g ≠ T + 1))) (fun h k => h.trans k fun _ _ h => h) (i := 13)
            · rfl
            · decide +kernel
            · rfl
            unfold Oper.wp
            go_simp
            refine ⟨HTa.out, ?_⟩
            apply Order.acts_any (R := (Turns (fun g => T ≤ g ∧ g ≠ T + 1))) (fun h k => h.trans k fun _ _ h => h) (i := 14)
            · rfl
            · decide +kernel
            · rfl
            simp only [List.getElem_toArray, List.getElem_cons_succ, List.getElem_cons_zero]
            refine wp_run _ _ rfl (by rfl) (by rfl) HRn.out ?_
            refine ⟨HT3.out.1, ?_⟩
            simp only [Act.put, List.setIfInBounds_toArray, List.set_cons_zero, List.set_cons_succ]
            refine Order.reads_any (idx := [15, 16]) (by kernel_rfl) (Turns.refl _ _) (fun _ _ _ _ _ h => Order.noPanic_put h) 1 _ _ (by decide +kernel) ?_
            simp only [Order.pick, List.getElem?_toArray, List.getElem?_cons_zero, List.getElem?_cons_succ]
            repeat (first
              | (refine Order.reads_off (by rfl) ?_
                 simp only [Act.put, List.setIfInBounds_toArray, List.set_cons_zero, List.set_cons_succ])
              | (apply Order.reads_on
                 · rfl
                 · intro x hx
                   first
                     | (go_simp; rfl)
                     | (fail
                        go_simp; rfl)
                 simp only [Act.put, List.setIfInBounds_toArray, List.set_cons_zero, List.set_cons_succ]))
            refine Order.reads_end ?_
            apply Order.acts_any (R := (Turns (fun g => T ≤ g ∧ g ≠ T + 1))) (fun h k => h.trans k fun _ _ h => h) (i := 17)
            · rfl
            · decide +kernel
            · rfl
            unfold Oper.wp
            go_simp
            refine ⟨HT3.out.2, ?_⟩
            refine wpAnyH_done (by decide +kernel) ?_ _
            refine NoPanic.normal ?_
            go_wp2_with fail
            go_meet
            case rel => exact rfl
          · unfold Oper.wp
            go_simp
            refine ⟨HTa.out, ?_⟩
            apply Order.acts_any (R := (Turns (fun g => T ≤ g ∧ g ≠ T + 1))) (fun h k => h.trans k fun _ _ h => h) (i := 6)
            · rfl
            · decide +kernel
            · rfl
            unfold Oper.wp
            go_simp
            refine ⟨Turns.refl _ _, ?_⟩
            refine Order.reads_any (idx := [10]) (by kernel_rfl) (Turns.refl _ _) (fun _ _ _ _ _ h => Order.noPanic_put h) 4 _ _ (by decide +kernel) ?_
            simp only [Order.pick, List.getElem?_toArray, List.getElem?_cons_zero, List.getElem?_cons_succ]
            repeat (first
              | (refine Order.reads_off (by rfl) ?_
                 simp only [Act.put, List.setIfInBounds_toArray, List.set_cons_zero, List.set_cons_succ])
              | (apply Order.reads_on
                 · rfl
                 · intro x hx
                   first
                     | (go_simp; rfl)
                     | (fail
                        go_simp; rfl)
                 simp only [Act.put, List.setIfInBounds_toArray, List.set_cons_zero, List.set_cons_succ]))
            refine Order.reads_end ?_
            apply Order.acts_any (R := (Turns (fun g => T ≤ g ∧ g ≠ T + 1))) (fun h k => h.trans k fun _ _ h => h) (i := 14)
            · rfl
            · decide +kernel
            · rfl
            simp only [List.getElem_toArray, List.getElem_cons_succ, List.getElem_cons_zero]
            refine wp_run _ _ rfl (by rfl) (by rfl) HRn.out ?_
            refine ⟨HT3.out.1, ?_⟩
            simp only [Act.put, List.setIfInBounds_toArray, List.set_cons_zero, List.set_cons_succ]
            refine Order.reads_any (idx := [15, 16]) (by kernel_rfl) (Turns.refl _ _) (fun _ _ _ _ _ h => Order.noPanic_put h) 1 _ _ (by decide +kernel) ?_
            simp only [Order.pick, List.getElem?_toArray, List.getElem?_cons_zero, List.getElem?_cons_succ]
            repeat (first
              | (refine Order.reads_off (by rfl) ?_
                 simp only [Act.put, List.setIfInBounds_toArray, List.set_cons_zero, List.set_cons_succ])
              | (apply Order.reads_on
                 · rfl
                 · intro x hx
                   first
                     | (go_simp; rfl)
                     | (fail
                        go_simp; rfl)
                 simp only [Act.put, List.setIfInBounds_toArray, List.set_cons_zero, List.set_cons_succ]))
            refine Order.reads_end ?_
            apply Order.acts_any (R := (Turns (fun g => T ≤ g ∧ g ≠ T + 1))) (fun h k => h.trans k fun _ _ h => h) (i := 17)
            · rfl
            · decide +kernel
            · rfl
            unfold Oper.wp
            go_simp
            refine ⟨HT3.out.2, ?_⟩
            refine wpAnyH_done (by decide +kernel) ?_ _
            refine NoPanic.normal ?_
            go_wp2_with fail
            go_meet
            case rel => exact rfl
        case rest =>
          subst hcut
          clear q3 fz3 f1 g1 hcutr HTY HRn HT3 HX HTa HB HTT H2
          generalize z2.setCell ⟨T, 3, none⟩ (.slice v2a (min l.length 7 + 1) v2c) = F at *
          obtain ⟨ns, hns⟩ : ∃ ns, ns = l.take (min l.length 7) := ⟨_, rfl⟩
          have hnl : ns.length = min l.length 7 := by rw [hns, List.length_take]; omega
          rw [← hns, ← hnl] at HF
          have hn7 : ns.length ≤ 7 := by omega
          have hw2 : ∀ s ∈ ns, Tr.word s = true := fun s hs => HG.out.2.2 s (List.mem_of_mem_take (by rw [hns] at hs; exact hs))
          have hd2 : dupN [] ns = false := dup_pre ns (l.drop (min l.length 7)) [] (by rw [hns, List.take_append_drop]; exact HDD.out)
          have hgd2 := good_less (ns := ns) (more := [zzR]) hw2 (by decide +kernel)
          obtain ⟨hsc, hsl, hit⟩ := less_small (ns := ns) (more := [zzR]) (fun r hr => List.mem_singleton.1 hr) (by simp; omega)
          have hL : (ns.map lessR ++ [zzR]).length = ns.length + 1 := by simp
          obtain ⟨vs3, hr3, hl3, he3⟩ := HF.out.1.row
          have hlies : Lies IsRl 6 F v2a (ns.map lessR ++ [zzR]) vs3 := by
            refine Lies.of_own (B := T + 2) (cap := v2c) (e := tRl) (by rw [hL] at hr3 ⊢; exact hr3) hl3 (fun v hv => ?_) fun i a u hi hu => (he3 i a u hi hu).is
            obtain ⟨i, hi, rfl⟩ := List.getElem_of_mem hv
            exact (he3 i _ _ (List.getElem?_eq_getElem (by omega)) (List.getElem?_eq_getElem hi)).six
          have h0L : 0 < (ns.map lessR ++ [zzR]).length := by omega
          obtain ⟨g, q, so, sc, no, nc, ss, hix', hg, d0, d1, d2, d3, d4, d5, -, hnd⟩ := Gr.rl_at hlies v2c h0L
          have hix : ∀ W, (Instr.indexAt 38 (.slice v2a (ns.length + 1) v2c) (.int .i64 0)).run Tryz.prog W = .ok (.pointer (some ⟨g, q, none⟩)) W := fun W => by
            have := hix' W
            rw [hL] at this
            exact this
          have HFew := Lib.hid (Tr.few_any _ _ F hnd)
          rw [decide_eq_true (rel_small h0L)] at HFew
          generalize (ns.map lessR ++ [zzR])[0] = r0 at *
          have f0 := box1 HF.out.1.box
          have f1 : F.cell? ⟨T, 3, none⟩ = some (.slice v2a (ns.length + 1) v2c) := by rw [Lib.cell_of_heap HF.out.1.tys]; rfl
          have HP := Lib.hid (And.intro hgd2 (And.intro hsc (And.intro hsl (And.intro hit (And.intro hn7 (And.intro hd2 hns))))))
          clear hw2 hd2 hgd2 hsc hsl hit hL hr3 hl3 he3 hlies h0L hix' hg hnd hnl hns hn7 vs3
          go_wp2_with fail
          refine HFew.out.mono ?_
          rintro e y ⟨rfl, hy⟩
          have H4 := Lib.hid (And.intro (HF.out.1.below hy) (HF.out.2.trans (hy.mono HF.out.2.size)))
          clear hy HFew hix d0 d1 d2 d3 d4 d5 f0 f1 HF
          have HC2 := Lib.hid (HCk (lessC ns [zzR]) _ y H4.out.1.cf (gC_short HP.out.1) HP.out.2.1 HP.out.2.2.1 HP.out.2.2.2.1)
          have b0 := box1 H4.out.1.box
          go_wp2_with fail
          refine HC2.out.mono ?_
          rintro e y2 ⟨u, t2, r2, code, S2, its2, rfl, hck, hpi, hx⟩
          have hbx := hx.trans ((Tr.fresh_one y2 (.cells #[.string t2, .string r2] 29)).mono hx.size)
          have H5 := Lib.hid (And.intro (H4.out.2.trans (hbx.mono H4.out.2.size)) (heap_alloc_new y2 (.cells #[.string t2, .string r2] 29)))
          have HCo := Lib.hid hck
          obtain ⟨pao2, pcap2, rfl, -⟩ := id hpi
          clear hck hpi hx hbx b0 HC2 H4
          go_upto_region 26 with fail
          generalize y2.alloc (.cells #[.string t2, .string r2] 29) = V at *
          generalize y2.heap.size = RV at *
          go_wp2_with fail
          go_loopw [124] (fun i wr => ∃ j : Nat, j ≤ l.length ∧ i = .int .i64 j ∧ Hid ((l.take j).any (fun x => same x zzN) = false ∧ (l.take j).any (fun x => same x zzzN) = false) ∧ wr = V) (fun i _ => l.length - (intOf i).toNat)
          case atStart => exact ⟨0, by omega, rfl, Lib.hid ⟨rfl, rfl⟩, rfl⟩
          case round =>
            obtain ⟨j, hj, rfl, HZ, rfl⟩ := hrel
            by_cases hlt : j < l.length
            · obtain ⟨g, q, hix, hg, c0'⟩ := tx_at HN.out.1 cap hlt
              have c0 := (H5.out.1.cell (p := ⟨g, q, none⟩) hg).trans c0'
              have h1 := any_take (p := fun x => same x zzN) hlt
              have h2 := any_take (p := fun x => same x zzzN) hlt
              rw [HZ.out.1, Bool.false_or] at h1
              rw [HZ.out.2, Bool.false_or] at h2
              have HT2 := Lib.hid (And.intro h1 h2)
              generalize l[j] = s at *
              have k1 : same s zzN = (s.toList == [122, 122]) := by rw [same, Lib.toList_data (s := zzN)]; rfl
              have k2 : same s zzzN = (s.toList == [122, 122, 122]) := by rw [same, Lib.toList_data (s := zzzN)]; rfl
              clear hg c0' h1 h2
              cases s1 : (s.toList == [122, 122]) with
              | true =>
                clear k1 k2
                go_wp2_with fail
                go_ret
                exact ⟨rfl, H5.out.1⟩
              | false =>
                cases s2 : (s.toList == [122, 122, 122]) with
                | true =>
                  clear k1 k2
                  go_wp2_with fail
                  go_ret
                  exact ⟨rfl, H5.out.1⟩
                | false =>
                  have HK2 := Lib.hid (And.intro (k1.trans s1) (k2.trans s2))
                  clear k1 k2
                  go_wp2_with fail
                  go_roundw
                  case rel => exact ⟨j + 1, by omega, by go_num, Lib.hid ⟨by rw [HT2.out.1]; exact HK2.out.1, by rw [HT2.out.2]; exact HK2.out.2⟩, trivial⟩
                  case measure => simp [intOf]; omega
            · have hj' : j = l.length := by omega
              subst hj'
              have hz := HZ.out
              rw [List.take_length] at hz
              have hsub : ∀ p : ByteArray → Bool, l.any p = false → ns.any p = false := fun p hp => by
                rw [List.any_eq_false] at hp ⊢
                intro x hx
                rw [HP.out.2.2.2.2.2.2] at hx
                exact hp x (List.mem_of_mem_take hx)
              obtain ⟨hc, ht, hr⟩ := HCo.out.less_zz HP.out.1 HP.out.2.2.2.2.1 HP.out.2.2.2.2.2.1 (hsub _ hz.1) (hsub _ hz.2)
              subst hc
              subst ht
              subst hr
              have sp : ∀ W, (binOp .eql 29 (.agg #[.string tN, .string zzN]) (.agg #[.string ⟨#[116]⟩, .string ⟨#[122, 122]⟩])).run Tryz.prog W = .ok (.bool true) W := fun W => spot_same _ _ W
              obtain ⟨m0, m1⟩ := Gr.box2 H5.out.2
              clear hz hsub HZ HCo
              go_wp2_with fail
              go_ret
              exact ⟨rfl, H5.out.1⟩
theorem walk_of (HCk : CheckOk) (ao : Option Addr) (cap : Nat) (l : List ByteArray) (us : List Value) (w : World) (hn : Lies IsTx 1 w ao l us) (hs : ∀ s ∈ l, s.size ≤ maxLen) (hcap : l.length ≤ cap) {a0 a1 : Addr} (hg : Gr.Glob a0 a1 w) :
    Calls Tryz.prog 4 #[.slice ao l.length cap] w fun e x => e = .returned (.bool true) ∧ Below w.heap.size w x := by
  by_cases h8 : 8 < l.length
  · exact far ao cap l w h8 fun x hx => awake_any HCk (hg.below hx)
  · exact near HCk ao cap l us w hn hs hcap (by omega) fun x hx => awake_any HCk (hg.below hx)
end LawL9Less
end Go.Proofs.YtopncohhagebbaaGreatDoor
