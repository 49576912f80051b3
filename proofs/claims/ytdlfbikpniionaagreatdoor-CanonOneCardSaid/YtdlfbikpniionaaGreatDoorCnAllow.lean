/-
  Layer 8 (canon): allowText: what a relation allows, as a text.
-/
import Derived.Test.YtdlfbikpniionaaGreatDoorCnGood
import Derived.RegionTactic
import Derived.BigRegion
import Derived.Deep.DeepCutAuto
namespace Go.Proofs.YtdlfbikpniionaaGreatDoor
open Go.RowKit
namespace Cn
open Tr (Nd IsNode node4 good size errOf fresh_one two none0)
open Gr (Al Rl Ty IsAl IsRl IsTy IsCf Lies ty_at rl_at al_at alV relV tyV tAl tRl tTy tCf box1 box2 box6 empty_iff bs bs_list bs_size bs_app bs_of prA prAs prAl WA)

def pa (a : Al) : ByteArray := bs (prA a)
theorem tls_pa (l : List Al) : tls (l.map pa) = l.map prA := by
  rw [tls, List.map_map]
  rfl
theorem szs_pa : ∀ {l : List Al}, (∀ a ∈ l, WA a) → szs (l.map pa) ≤ 35 * l.length
  | [], _ => by simp [szs]
  | a :: l, h => by
    have h1 := Gr.prA_len (h a (by simp))
    have h2 := szs_pa (l := l) fun b hb => h b (by simp [hb])
    unfold szs at h2 ⊢
    rw [List.map_cons, List.map_cons, List.sum_cons, List.length_cons, pa, bs_size]
    omega
theorem jn_false2 : ∀ (l : List Al), (l.map prA).flatMap (fun b => [44, 32] ++ b) = prAs false l
  | [] => rfl
  | a :: l => by
    rw [prAs, List.map_cons, List.flatMap_cons, jn_false2 l, if_neg (by decide), List.append_assoc]
/-- The whole of what is allowed. -/
theorem jn_prAl {l : List Al} (h : l ≠ []) : prAl l = [91] ++ (jn [44, 32] (l.map prA) ++ [93, 32]) := by
  cases l with
  | nil => exact absurd rfl h
  | cons a l =>
    rw [prAl, prAs, List.map_cons, jn, jn_false2, if_pos rfl]
    simp
theorem pa_parts (a : Al) (h : WA a) : (Tr.nil a.rel = true ∧ a.wild = false ∧ pa a = a.ty) ∨ (Tr.nil a.rel = true ∧ a.wild = true ∧ pa a = a.ty ++ ⟨#[58, 42]⟩) ∨ (Tr.nil a.rel = false ∧ a.wild = false ∧ a.rel.size ≤ 16 ∧ pa a = a.ty ++ (⟨#[35]⟩ ++ a.rel)) := by
  obtain ⟨ty, rel, wild⟩ := a
  rcases h.2 with h1 | ⟨h1, h2⟩
  · obtain rfl : rel = none0 := h1
    have hn : Tr.nil none0 = true := rfl
    cases wild with
    | false => exact .inl ⟨rfl, rfl, by rw [pa, prA, if_pos hn, if_neg (by simp), List.nil_append, List.append_nil]; exact bs_of ty⟩
    | true => exact .inr (.inl ⟨rfl, rfl, by rw [pa, prA, if_pos hn, if_pos rfl, List.nil_append, ← bs_app, bs_of]; rfl⟩)
  · obtain rfl : wild = false := h1
    have hn : Tr.nil rel = false := Gr.word_notnil h2
    refine .inr (.inr ⟨hn, rfl, Tr.word_len h2, ?_⟩)
    rw [pa, prA, if_neg (by simp only [hn]; decide), if_neg (by simp), List.append_nil, ← bs_app, bs_of, show (35 :: rel.data.toList) = [35] ++ rel.data.toList from rfl, ← bs_app, bs_of]
    rfl

set_option maxHeartbeats 4000000 in
set_option maxRecDepth 100000 in
theorem allowText_any (l : List Al) (ao : Option Addr) (cap : Nat) (us : List Value) (w : World) (hl : Lies IsAl 3 w ao l us) (hw : ∀ a ∈ l, WA a) (hn : l.length ≤ 100000) :
    Calls Tryz.prog 34 #[.slice ao l.length cap] w fun e x => e = .returned (.string (bs (jn [44, 32] (l.map prA)))) ∧ Below w.heap.size w x := by
  obtain ⟨c, hmk, hnew⟩ := make_texts l.length (by omega)
  have hsum := szs_pa hw
  have HL := Lib.hid hl
  have HW := Lib.hid hw
  have HS := Lib.hid (And.intro (show szs (l.map pa) ≤ 4000000 by omega) (show (bs [44, 32]).size = 2 ∨ (bs [44, 32]).size = 3 from .inl rfl))
  have hn0 := hnew w
  have hb0 := fresh_one w (.cells c 9)
  have H0 := Lib.hid (And.intro hn0 hb0)
  clear hl hw hsum hn0 hb0 hnew
  go_enter Tryz.func34, Tryz.ntmps34
  go_wp2_with fail
  clear hmk
  go_loopw [11] (fun i wr => ∃ j : Nat, j ≤ l.length ∧ i = .int .i64 j ∧ Hid (Texts w.heap.size l.length ((l.take j).map pa) wr ∧ Below w.heap.size w wr)) (fun i _ => l.length - (intOf i).toNat)
  case atStart => exact ⟨0, by omega, rfl, H0⟩
  case round =>
    obtain ⟨j, hj, rfl, HJ⟩ := hrel
    clear H0
    by_cases hlt : j < l.length
    · obtain ⟨g, q, hix, hgb, c0, c1, c2⟩ := al_at (HL.out.on HJ.out.2 fun _ _ h => h) cap hlt
      have hwa := HW.out l[j] (List.getElem_mem hlt)
      have hpp := pa_parts l[j] hwa
      have hix2 := str_at (g := w.heap.size) (o := 0) (n := l.length) (cap := l.length) hlt
      simp only [Nat.zero_add] at hix2
      have hlen : ((l.take j).map pa).length = j := by rw [List.length_map, List.length_take]; omega
      have htk : (l.take (j + 1)).map pa = (l.take j).map pa ++ [pa l[j]] := by rw [List.take_succ_eq_append_getElem hlt, List.map_append]; rfl
      have hty := Tr.word_len hwa.1
      have HT := Lib.hid (And.intro hlen htk)
      clear hwa hlen htk
      generalize l[j] = a at *
      obtain ⟨ty, rl, wd⟩ := a
      simp only at hpp hty c0 c1 c2
      have al1 := fresh_one wr (.cells #[.string ty, .string rl, .bool wd] tAl)
      have hT1 := HJ.out.1.on al1
      have hb1 := HJ.out.2.trans (al1.mono HJ.out.2.size)
      have hbx := heap_alloc_new wr (.cells #[.string ty, .string rl, .bool wd] tAl)
      have hgw : ¬ wr.heap.size = w.heap.size := by have := HJ.out.1.lt; omega
      have hgw2 : ¬ w.heap.size = wr.heap.size := by have := HJ.out.1.lt; omega
      have hgl := HJ.out.1.lt
      obtain ⟨ov, hcj⟩ := hT1.any hlt
      have hfz := hT1.free j
      have hs1 : (wr.setCell ⟨w.heap.size, j, none⟩ (.string ty)).heap.size = wr.heap.size := by simp
      have al2 := fresh_one (wr.setCell ⟨w.heap.size, j, none⟩ (.string ty)) (.cells #[.string ty, .string rl, .bool wd] tAl)
      have hput := (HJ.out.1.put HT.out.1 hlt ty).on al2
      have hb2 := (HJ.out.2.setCell (p := ⟨w.heap.size, j, none⟩) (by simp) (.string ty)).trans (al2.mono (by rw [hs1]; exact HJ.out.2.size))
      have hbx2 := heap_alloc_new (wr.setCell ⟨w.heap.size, j, none⟩ (.string ty)) (.cells #[.string ty, .string rl, .bool wd] tAl)
      rw [hs1] at hbx2
      have HX := Lib.hid (And.intro hput (And.intro hb2 hbx2))
      have hj3 : j ≤ 100000 := by omega
      rw [empty_iff] at hpp
      clear HJ al1 hT1 hb1 hbx hput hb2 hbx2 hgb hs1 al2
      have HP := Lib.hid hpp
      clear hpp
      go_upto_region 6 with fail
      generalize (wr.setCell ⟨w.heap.size, j, none⟩ (.string ty)).alloc (.cells #[.string ty, .string rl, .bool wd] tAl) = X at *
      generalize wr.heap.size = R at *
      clear hcj hfz c0 c1 c2
      obtain ⟨b0, b1, b2⟩ := box3 HX.out.2.2
      have hc := HX.out.1.last HT.out.1
      have hfz := HX.out.1.free j
      have hpp := HP.out
      clear HP
      rcases hpp with ⟨hn, rfl, hfin⟩ | ⟨hn, rfl, hfin⟩ | ⟨hn, rfl, hz, hfin⟩
      · have HY := Lib.hid (And.intro (show Texts w.heap.size l.length ((l.take (j + 1)).map pa) X by rw [HT.out.2, hfin]; exact HX.out.1) HX.out.2.1)
        clear hfin HX HT
        go_wp2_with fail
        go_roundw
        case rel => exact ⟨j + 1, by omega, by go_num, HY⟩
        case measure => simp [intOf]; omega
      · have HY := Lib.hid (And.intro (show Texts w.heap.size l.length ((l.take (j + 1)).map pa) (X.setCell ⟨w.heap.size, j, none⟩ (.string (ty ++ ⟨#[58, 42]⟩))) by rw [HT.out.2, hfin]; exact HX.out.1.again HT.out.1 hlt _) (HX.out.2.1.setCell (p := ⟨w.heap.size, j, none⟩) (by simp) (.string (ty ++ ⟨#[58, 42]⟩))))
        have s1 : ∀ W, (Op.stringOp .add ty ⟨#[58, 42]⟩).run Tryz.prog W = .ok (.string (ty ++ ⟨#[58, 42]⟩)) W := fun W => run_string_add_sum _ _ _ (by rw [show (⟨#[58, 42]⟩ : ByteArray).size = 2 from rfl]; omega)
        clear hfin HX HT
        go_wp2_with fail
        go_roundw
        case rel => exact ⟨j + 1, by omega, by go_num, HY⟩
        case measure => simp [intOf]; omega
      · have hput := HX.out.1.again HT.out.1 hlt (ty ++ (⟨#[35]⟩ ++ rl))
        have hb3 := HX.out.2.1.setCell (p := ⟨w.heap.size, j, none⟩) (by simp) (.string (ty ++ (⟨#[35]⟩ ++ rl)))
        have hb4 := (Below.heap_setCell X ⟨w.heap.size, j, none⟩ (.string (ty ++ (⟨#[35]⟩ ++ rl))) R (by simp only; omega)).trans HX.out.2.2
        have HY := Lib.hid (And.intro (show Texts w.heap.size l.length ((l.take (j + 1)).map pa) (X.setCell ⟨w.heap.size, j, none⟩ (.string (ty ++ (⟨#[35]⟩ ++ rl)))) by rw [HT.out.2, hfin]; exact hput) (And.intro hb3 hb4))
        have s1 : ∀ W, (Op.stringOp .add ⟨#[35]⟩ rl).run Tryz.prog W = .ok (.string (⟨#[35]⟩ ++ rl)) W := fun W => run_string_add_sum _ _ _ (by rw [show (⟨#[35]⟩ : ByteArray).size = 1 from rfl]; omega)
        have s2 : ∀ W, (Op.stringOp .add ty (⟨#[35]⟩ ++ rl)).run Tryz.prog W = .ok (.string (ty ++ (⟨#[35]⟩ ++ rl))) W := fun W => run_string_add_sum _ _ _ (by rw [ByteArray.size_append, show (⟨#[35]⟩ : ByteArray).size = 1 from rfl]; omega)
        clear hfin HX HT hput hb3 hb4
        go_wp2_with fail
        go_region
        clear b0 b1 b2 hc hfz
        obtain ⟨-, -, b2⟩ := box3 (show ((X.setCell ⟨w.heap.size, j, none⟩ (.string (ty ++ (⟨#[35]⟩ ++ rl)))).drew).heap[R]? = some (.cells #[.string ty, .string rl, .bool false] tAl (0, 0)) from HY.out.2.2)
        have HZ := Lib.hid (And.intro (show Texts w.heap.size l.length ((l.take (j + 1)).map pa) (X.setCell ⟨w.heap.size, j, none⟩ (.string (ty ++ (⟨#[35]⟩ ++ rl)))).drew from HY.out.1) HY.out.2.1.drew)
        go_wp2_with fail
        go_roundw
        case rel => exact ⟨j + 1, by omega, by go_num, HZ⟩
        case measure => simp [intOf]; omega
    · have hj' : j = l.length := by omega
      subst hj'
      have hJ := HJ.out
      rw [List.take_length] at hJ
      have hC := join_any (l.map pa) (bs [44, 32]) w.heap.size 0 l.length wr (fun i u hi => by rw [Nat.zero_add]; exact hJ.1.cell hi) HS.out.2 (by rw [List.length_map]; omega) (by rw [List.length_map]; omega) HS.out.1
      rw [List.length_map, bs_list, tls_pa] at hC
      have HC := Lib.hid hC
      have HB := Lib.hid hJ.2
      clear hC hJ HJ HL HW HS
      go_wp2_with fail
      refine HC.out.mono ?_
      rintro e x ⟨rfl, hx⟩
      go_wp2_with fail
      go_ret
      exact ⟨rfl, HB.out.trans (hx.mono HB.out.size)⟩
end Cn
end Go.Proofs.YtdlfbikpniionaaGreatDoor
