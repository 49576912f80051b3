/-
  Layer 10: the statement CaskWhole, walked.
-/
import Derived.Test.YticcldohgbpcbaaDoorCgD
import Derived.Test.YticcldohgbpcbaaDoorCkUnpack
import Derived.Test.YticcldohgbpcbaaDoorCnFew
import Derived.Test.YticcldohgbpcbaaDoorCnRGood
import Derived.Test.YticcldohgbpcbaaDoorCkArg
namespace Go.Proofs.YticcldohgbpcbaaDoor
open Go.RowKit Go.Sort
namespace LawK10Whole
open Knot (Tab tab_on tab_up conv_bytes Turns IsArg IsBytes NewRow isBytes)
open Tr (Nd size)
open Who (bs bs_list bs_size wp_region_class quiet_of)
open Gr (Al Rl Ty IsCf tCf)
open Cn (ShortC gC fewC)
open Ck

section
variable {P : Program} {w : World} {t e : TypeId} {i : TypeInfo}
theorem append_arg (T : IsBytes P t e i) (ty : TypeId) {B n : Nat} {v u : Value} {xs : List Value} {l : List UInt8} (hown : w.ownsRow B e 1 v n xs) (hB : B ≤ w.heap.size) (h : IsArg w u l) (hs : n + l.length ≤ 100000000) :
    ∃ v' x, (Builtin.append_ #[t, t] ty #[v, u]).run P w = .ok v' x ∧ x.ownsRow B e 1 v' (n + l.length) (xs ++ Lib.byteCells l) ∧ w.grownBy x v.ownBlock ∧ NewRow w v v' := by
  rcases h with ⟨rfl, rfl⟩ | ⟨a, cap, rfl, hc⟩
  · exact ⟨v, w, Tr.append_none (sz := 1) (by' := 1) ⟨T.under, T.info, T.zero, T.size, T.bytes, rfl, by decide⟩ ty hown (by simpa using hs), by simpa [Lib.byteCells] using hown, World.grownBy.refl _ _, NewRow.refl _ _⟩
  · exact Knot.append_row T ty hown hB (Lib.byteCells_length l) hc (fun q hq => by simp only [Lib.byteCells, List.mem_map] at hq; obtain ⟨b, -, rfl⟩ := hq; rfl) hs
theorem walk_arg {ops : Array Oper} {rest : List Oper} {o : Oper} {a : Act} {Q : Exit → Act → World → Prop} (T : IsBytes P t e i) (hgd : o.guard = none) (s x : Operand) (ho : o.op = .call { callee := .builtin .append, args := #[s, x], argTypes := #[t, t] })
    {B n : Nat} {v u : Value} {xs : List Value} {l : List UInt8} (hs : a.eval s = v) (hx : a.eval x = u) (hown : w.ownsRow B e 1 v n xs) (hB : B ≤ w.heap.size) (h : IsArg w u l) (hz : n + l.length ≤ 100000000)
    (k : ∀ v' y, y.ownsRow B e 1 v' (n + l.length) (xs ++ Lib.byteCells l) → w.grownBy y v.ownBlock → NewRow w v v' → wpList P ops Q rest (a.put o.dst v') y) : wpList P ops Q (o :: rest) a w := by
  refine wpList_plain hgd fun K hK => ?_
  obtain ⟨v', y, hr, h2, h3, h4⟩ := append_arg T o.type hown hB h hz
  unfold Oper.wp execOp
  simp only [ho, resolve, invoke, builtin, Sem.run_bind, Sem.run_pure, Result.andThen_ok, List.map_toArray, List.map_cons, List.map_nil, hs, hx, hr]
  exact hK _ _ (k v' y h2 h3 h4)
end

theorem own_bytes {w : World} {B n : Nat} {v : Value} {l : List UInt8} (h : w.ownsRow B 5 1 v n (Lib.byteCells l)) (hn : n = l.length) (hp : 1 ≤ n) :
    ∃ g cap, v = .slice (some ⟨g, 0, none⟩) l.length cap ∧ w.ownsRow B 5 1 (.slice (some ⟨g, 0, none⟩) l.length cap) l.length (Lib.byteCells l) := by
  subst hn
  obtain ⟨k, hk⟩ : ∃ k, l.length = k + 1 := ⟨l.length - 1, by omega⟩
  rcases id h.2 with ⟨-, h0⟩ | ⟨g, cap, cur, rfl, -⟩
  · omega
  · exact ⟨g, cap, rfl, h⟩

set_option maxHeartbeats 16000000 in
set_option maxRecDepth 100000 in
theorem walk (l : List Ty) (v : Value) (cut : Int) (mv : Value) (ml : List UInt8) (w : World) (h : IsCf w l v) (hs : ShortC l) (ha : ∀ t ∈ l, ∀ r ∈ t.rels, r.allow.length ≤ 281474976710656) (hcut : 0 ≤ cut ∧ cut < 65536) (hm : IsArg w mv ml) (ht : Tab w.heap.size w) :
    Calls Tryd.prog 4 #[v, .int .u16 cut, mv] w fun e x => e = .returned (.bool true) ∧ Below w.heap.size w x := by
  obtain ⟨ao, cap, us, rfl, hl⟩ := id h
  obtain ⟨mo, mc, rfl⟩ := hm.len
  have al := Tr.fresh_one w (.cells #[.slice ao l.length cap] tCf)
  have hk := heap_alloc_new w (.cells #[.slice ao l.length cap] tCf)
  have H0 := Lib.hid (And.intro al (And.intro hk (And.intro h hm)))
  have HT := Lib.hid ht
  have HS := Lib.hid (And.intro hs ha)
  have HA := Lib.hid (fun x (hb : Below w.heap.size w x) => Ck.awake_any x (tab_up ht hb))
  have hR : w.heap.size < (w.alloc (.cells #[.slice ao l.length cap] tCf)).heap.size := by simp
  clear al hk h hs ha ht hl hm
  go_enter Tryd.func4, Tryd.ntmps4
  go_upto_region 1 with fail
  generalize w.alloc (.cells #[.slice ao l.length cap] 26) = X at *
  go_wp2_with fail
  refine (HA.out _ H0.out.1).mono ?_
  rintro e x1 ⟨rfl, hx⟩
  have H1 := Lib.hid (And.intro (H0.out.1.trans (hx.mono H0.out.1.size)) ((hx.block _ hR).trans H0.out.2.1))
  clear hx
  have HF := Lib.hid (Cn.few_any l _ x1 (H0.out.2.2.1.below H1.out.1) HS.out.2)
  have b0 := Gr.box1 H1.out.2
  go_wp2_with fail
  refine HF.out.mono ?_
  rintro e x2 ⟨rfl, hx⟩
  have H2 := Lib.hid (And.intro (H1.out.1.trans (hx.mono H1.out.1.size)) ((hx.block _ (Array.getElem?_eq_some_iff.1 H1.out.2).1).trans H1.out.2))
  clear hx b0 HF H1
  have hl := H0.out.2.2.1
  cases hf : fewC l with
  | false =>
    clear hl hf
    go_wp2_with fail
    refine (HA.out _ H2.out.1).mono ?_
    rintro e x3 ⟨rfl, hx⟩
    have H3 := Lib.hid (H2.out.1.trans (hx.mono H2.out.1.size))
    clear hx
    go_wp2_with fail
    go_ret
    exact ⟨rfl, H3.out⟩
  | true =>
    have HFw := Lib.hid hf
    have HG := Lib.hid (Cn.rGood_any l _ x2 (hl.below H2.out.1) HS.out.1 fun t ht r hr => by have := (Cn.few_parts HFw.out).2.1 t ht; have := this.2 r hr; omega)
    have b0 := Gr.box1 H2.out.2
    clear hl hf
    go_wp2_with fail
    refine HG.out.mono ?_
    rintro e x3 ⟨rfl, hx⟩
    have H3 := Lib.hid (And.intro (H2.out.1.trans (hx.mono H2.out.1.size)) ((hx.block _ (Array.getElem?_eq_some_iff.1 H2.out.2).1).trans H2.out.2))
    clear hx b0 HG H2
    cases hg : gC l with
    | false =>
      clear hg
      go_wp2_with fail
      refine (HA.out _ H3.out.1).mono ?_
      rintro e x4 ⟨rfl, hx⟩
      have H4 := Lib.hid (H3.out.1.trans (hx.mono H3.out.1.size))
      clear hx
      go_wp2_with fail
      go_ret
      exact ⟨rfl, H4.out⟩
    | true =>
      have HGd := Lib.hid hg
      clear hg
      by_cases hmore : 100 < ml.length
      · go_wp2_with fail
        refine (HA.out _ H3.out.1).mono ?_
        rintro e x4 ⟨rfl, hx⟩
        have H4 := Lib.hid (H3.out.1.trans (hx.mono H3.out.1.size))
        clear hx
        go_wp2_with fail
        go_ret
        exact ⟨rfl, H4.out⟩
      · have hzz := conf_bound HFw.out HGd.out
        have HP := Lib.hid (pack_any l _ x3 (H0.out.2.2.1.below H3.out.1) (tab_up HT.out H3.out.1) (fun hg => Nat.le_trans hzz (by omega)))
        have HZ := Lib.hid hzz
        clear hzz
        have b0 := Gr.box1 H3.out.2
        go_wp2_with fail
        refine HP.out.mono ?_
        rintro e x4 ⟨hb4, hcase⟩
        rcases hcase with ⟨hg, -⟩ | ⟨-, g, bc, rfl, hown⟩
        · rw [HGd.out] at hg; cases hg
        have H4 := Lib.hid (And.intro (H3.out.1.trans (hb4.mono H3.out.1.size)) hown)
        have hb1 : 1 ≤ (confB l).length := by have := listB_len typeB_pos l; rw [confB]; omega
        have HB1 := Lib.hid hb1
        have hbz : (confB l).length ≤ 55000000 := HZ.out
        obtain ⟨m, hm⟩ : ∃ m : Nat, cut % ((confB l).length : Int) = (m : Int) := ⟨(cut % ((confB l).length : Int)).toNat, by have := Int.emod_nonneg cut (show ((confB l).length : Int) ≠ 0 by omega); omega⟩
        have hml : m < (confB l).length := by have := Int.emod_lt_of_pos cut (show (0 : Int) < ((confB l).length : Int) by omega); omega
        have hcap : (confB l).length ≤ bc := by
          rcases hown.2 with ⟨h0, -⟩ | ⟨g', cap', cur, hv, -, -, hle, -⟩
          · cases h0
          · obtain ⟨-, -, rfl⟩ : some (⟨g, 0, none⟩ : Addr) = some ⟨g', 0, none⟩ ∧ (confB l).length = (confB l).length ∧ bc = cap' := by simpa using hv
            exact hle
        have hcv : ∀ W, Below x4.heap.size x4 W → (Go.convert 22 9 (.slice (some ⟨g, 0, none⟩) m bc)).run Tryd.prog W = .ok (.string (bs ((confB l).take m))) W := fun W hW => by
          have h1 := Tr.own_cut (Tr.own_below hown hW) (m := m) (Nat.le_of_lt hml)
          have h2 : ((confB l).take m).length = m := by rw [List.length_take]; omega
          rw [Nat.mul_one, show (Lib.byteCells (confB l)).take m = Lib.byteCells ((confB l).take m) by rw [Lib.byteCells, Lib.byteCells, List.map_take]] at h1
          have h3 := conv_bytes (w := W) (b := x3.heap.size) (g := g) (cap := bc) (l := (confB l).take m) (by rw [h2]; exact h1)
          rwa [h2] at h3
        have HU := Lib.hid (unpack_any (.slice (some ⟨g, 0, none⟩) m bc) (bs ((confB l).take m)) x4 hcv (by rw [bs_size, List.length_take]; omega))
        have hun : unpack ((confB l).take m) = none := unpack_shorter HGd.out (by omega) (List.take_append_drop m (confB l)) (by intro e; have := congrArg List.length e; rw [List.length_drop, List.length_nil] at this; omega)
        have HUn := Lib.hid hun
        have hrem : cut % ((confB l).length : Int) = (m : Int) := hm
        clear hb4 hown b0 HP H3 hun hcv hm
        generalize hln : (confB l).length = nb at *
        go_wp2_with fail
        refine HU.out.mono ?_
        rintro e x5 ⟨hb5, hcase⟩
        rw [bs_list, HUn.out] at hcase
        rcases hcase with ⟨-, rfl⟩ | ⟨l', v', h0, -⟩
        rotate_left
        · cases h0
        have H5 := Lib.hid (And.intro (H4.out.1.trans (hb5.mono H4.out.1.size)) (Tr.own_below H4.out.2 hb5))
        have al : Below x5.heap.size x5 (x5.alloc (.cells #[.slice none 0 0] tCf)) := (Below.refl _ _).alloc (Nat.le_refl _) _
        have H6 := Lib.hid (And.intro (H5.out.1.trans (al.mono H5.out.1.size)) (Tr.own_below H5.out.2 al))
        clear hb5 HU HUn H4 al H5
        go_upto_region 7 with fail
        generalize x5.alloc (.cells #[.slice none 0 0] 26) = Y at *
        obtain ⟨i0, T⟩ := isBytes
        have al2 : Below Y.heap.size Y (Y.alloc (.cells #[] 5)) := (Below.refl _ _).alloc (Nat.le_refl _) _
        have ho0 : (Y.alloc (.cells #[] 5)).ownsRow Y.heap.size 5 1 (.slice (some ⟨Y.heap.size, 0, none⟩) 0 0) 0 [] :=
          ⟨rfl, .inr ⟨Y.heap.size, 0, #[], rfl, Nat.le_refl _, heap_alloc_new Y _, Nat.le_refl _, Nat.zero_le _, rfl, rfl⟩⟩
        have hb0 : Y.heap.size ≤ (Y.alloc (.cells #[] 5)).heap.size := al2.size
        have HAr := Lib.hid (show IsArg (Y.alloc (.cells #[] 5)) (.slice (some ⟨g, 0, none⟩) nb bc) (confB l) from .inr ⟨⟨g, 0, none⟩, bc, by rw [hln], fun j u hj => (Tr.own_below H6.out.2 al2).cells (g := g) rfl j u hj⟩)
        have HO := Lib.hid (And.intro ho0 (And.intro hb0 (And.intro (H6.out.1.trans (al2.mono H6.out.1.size)) T)))
        have hz0 : 0 + (confB l).length ≤ 100000000 := by omega
        clear al2 ho0 hb0 T
        go_wp2_with (at_builtin; refine walk_arg HO.out.2.2.2 rfl _ _ rfl rfl rfl HO.out.1 HO.out.2.1 HAr.out hz0 ?_)
        intro v1 y1 o1 g1 n1
        have tg : Turns (fun k => k = Y.heap.size) _ y1 := Turns.of_grown g1 fun k hk => (Option.some.inj hk).symm
        have hY := H6.out.1.size
        have H7 := Lib.hid (And.intro (HO.out.2.2.1.trans (tg.below HO.out.2.2.1.size fun k hk => by have e : k = Y.heap.size := hk; omega)) (And.intro o1 (tg.size)))
        have HAr2 := Lib.hid (H0.out.2.2.2.below H7.out.1)
        have hb1 : Y.heap.size ≤ y1.heap.size := Nat.le_trans HO.out.2.1 tg.size
        have hz1 : nb + ml.length ≤ 100000000 := by omega
        obtain ⟨a1, p1, rfl⟩ := Tr.own_slice o1
        have HT7 := Lib.hid (And.intro HO.out.2.2.2 hb1)
        clear o1 g1 n1 tg HO HAr hz0 hb1
        go_wp2_with (at_builtin; refine walk_arg HT7.out.1 rfl _ _ rfl rfl rfl H7.out.2.1 HT7.out.2 HAr2.out hz1 ?_)
        intro v2 y2 o2 g2 n2
        have tg : Turns (fun k => Y.heap.size ≤ k) _ y2 := Turns.of_grown g2 fun k hk => (H7.out.2.1.lt k hk.symm.symm).1
        have H8 := Lib.hid (H7.out.1.trans (tg.below H7.out.1.size fun k hk => Nat.le_trans hY hk))
        rw [show Lib.byteCells (confB l) ++ Lib.byteCells ml = Lib.byteCells (confB l ++ ml) by rw [Lib.byteCells, Lib.byteCells, Lib.byteCells, List.map_append]] at o2
        obtain ⟨g3, p3, rfl, o3⟩ := own_bytes o2 (by rw [List.length_append, hln]) (by omega)
        have HCm := Lib.hid (show (confB l ++ ml).length = nb + ml.length by rw [List.length_append, hln])
        have HCe := Lib.hid (show confB l ++ ml = confB l ++ ml from rfl)
        have hcz : (confB l ++ ml).length ≤ 90000000 := by have := HCm.out; omega
        generalize hcm : confB l ++ ml = cm at *
        clear HCe
        have HCq := Lib.hid hcm
        clear hcm
        have HU := Lib.hid (unpack_any (.slice (some ⟨g3, 0, none⟩) cm.length p3) (bs cm) y2 (fun W hW => conv_bytes (Tr.own_below o3 hW)) (by rw [bs_size]; exact hcz))
        generalize cm.length = nc at *
        clear o2 g2 n2 tg o3 HAr2 H7 HT7 hz1 H6 hY hcz HCm
        go_wp2_with fail
        refine HU.out.mono ?_
        rintro e y3 ⟨hb3, hcase⟩
        rw [bs_list, ← HCq.out] at hcase
        have H9 := Lib.hid (H8.out.trans (hb3.mono H8.out.size))
        clear hb3 HU H8
        by_cases hml0 : ml = []
        · subst hml0
          rw [List.append_nil, unpack_again HGd.out (by omega)] at hcase
          rcases hcase with ⟨h0, -⟩ | ⟨l', v', h0, rfl, bo, bcap, rfl, -⟩
          · cases h0
          obtain rfl := Option.some.inj h0
          have HE := Lib.hid (H9.out.trans (((Below.refl y3.heap.size y3).alloc (Nat.le_refl _) (.cells #[.slice bo l.length bcap] tCf)).mono H9.out.size))
          clear h0 H9
          go_wp2_with fail
          go_ret
          exact ⟨rfl, HE.out⟩
        · rw [unpack_longer HGd.out (by omega) hml0] at hcase
          rcases hcase with ⟨-, rfl⟩ | ⟨l', v', h0, -⟩
          rotate_left
          · cases h0
          have hml1 : ((ml.length : Int) == 0) = false := by have := List.length_pos_iff.2 hml0; simp; exact hml0
          have HE := Lib.hid (H9.out.trans (((Below.refl y3.heap.size y3).alloc (Nat.le_refl _) (.cells #[.slice none 0 0] tCf)).mono H9.out.size))
          clear H9
          go_wp2_with fail
          go_ret
          exact ⟨rfl, HE.out⟩
end LawK10Whole
end Go.Proofs.YticcldohgbpcbaaDoor
