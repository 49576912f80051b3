/-
  Layer 5's document at nodes of up to 100000 parts: its Good, and its Same at two readings of one node.
-/
import Derived.Test.YticcldohgbpcbaaGreatDoorMgMem
import Derived.Test.YticcldohgbpcbaaGreatDoorRWord
namespace Go.Proofs.YticcldohgbpcbaaGreatDoor
open Go.RowKit
namespace Gr
open Tr (Nd IsNode IsNodes Box4 node4 good goods fits size sizes word nil none0 size_pos size_kids sizes_len sizes_mem goods_take goods_part rword_any RowAt)
open Who (wp_region_class quiet_of)

theorem empty_iff (s : ByteArray) : nil s = s.toList.isEmpty := by rw [nil, Lib.toList_data]
theorem len_zero (n : Nat) : ((n : Int) == 0) = (n == 0) := by
  by_cases h : n = 0
  · subst h; rfl
  · rw [beq_eq_false_iff_ne.2 h]; simp; omega
theorem len_two (n : Nat) : ((n : Int) == 2) = (n == 2) := by
  by_cases h : n = 2
  · subst h; rfl
  · rw [beq_eq_false_iff_ne.2 h]; simp; omega

set_option maxHeartbeats 8000000 in
set_option maxRecDepth 100000 in
theorem rgood_any : ∀ (q : Nat) (n : Nd) (v : Value) (w : World), size n ≤ q → size n ≤ 100000 → IsNode w n v →
    Calls Tryz.prog 78 #[v] w fun e x => e = .returned (.bool (good n)) ∧ Below w.heap.size w x := by
  intro q
  induction q with
  | zero => intro n v w h; have := size_pos n; omega
  | succ q ih =>
    intro n v w hk hl hn
    obtain ⟨ao, cap, vs, rfl, hs, hks⟩ := hn.kids
    have hsz := size_kids n
    have hlen := sizes_len n.kids
    have HI := Lib.hid ih
    have hlen3 : n.kids.length ≤ 100000 := by omega
    have HZ := Lib.hid (And.intro hsz hk)
    clear hn ih hlen hsz hk
    cases n with
    | mk k a b l =>
    have HK : Hid (Tr.Kids w l ao vs) := hks
    change (Nd.mk k a b l).kids.length ≤ 100000 at hlen3
    change l.length ≤ 100000 at hlen3
    have HA := Lib.hid (fun w => rword_any a w hs.1)
    have HB := Lib.hid (fun w => rword_any b w hs.2)
    clear hks hs
    show Calls _ _ #[node4 k a b (.slice ao l.length cap)] _ _
    go_enter Tryz.func78, Tryz.ntmps78
    go_wp2_with fail
    go_loopw [7] (fun i wr => ∃ j : Nat, j ≤ l.length ∧ i = .int .i64 j ∧ Hid (goods (l.take j) = true) ∧ Box4 w.heap.size k a b (.slice ao l.length cap) wr ∧ Below w.heap.size w wr) (fun i _ => l.length - (intOf i).toNat)
    case atStart => exact ⟨0, by omega, rfl, rfl, Box4.new w _ _ _ _, (Below.refl _ _).alloc (Nat.le_refl _) _⟩
    case round =>
      obtain ⟨j, hj, rfl, HG, hh, hb⟩ := hrel
      have HB2 := Lib.hid (And.intro hb hh)
      obtain ⟨b0, b1, b2, b3⟩ := hh.cells
      by_cases hlt : j < l.length
      · obtain ⟨g, q, sa, sc, hix, hg, c0, c1, c2, c3, hn⟩ := (HK.out.below hb).at cap hlt
        have hm := sizes_mem (List.getElem_mem hlt)
        have hz : size (Nd.mk k a b l) = 1 + sizes l := HZ.out.1
        have hz2 := HZ.out.2
        have hC := HI.out l[j] _ wr (by omega) (by omega) hn
        have ht := goods_take hlt
        rw [HG.out, Bool.true_and] at ht
        have HC := Lib.hid hC
        have HT := Lib.hid ht
        clear hb hn hC hh hm hz hz2 ht
        cases hgd : good l[j] with
        | true =>
          rw [hgd] at HC HT
          clear hgd
          go_wp2_with fail
          refine HC.out.mono ?_
          rintro e x ⟨rfl, hx⟩
          go_wp2_with fail
          go_roundw
          case rel => exact ⟨j + 1, by omega, by go_num, HT, HB2.out.2.on hx, HB2.out.1.trans (hx.mono HB2.out.1.size)⟩
          case measure => simp [intOf]; omega
        | false =>
          rw [hgd] at HC HT
          have HF := Lib.hid (show good (.mk k a b l) = false by rw [good, goods_part HT.out, Bool.false_and])
          clear hgd
          go_wp2_with fail
          refine HC.out.mono ?_
          rintro e x ⟨rfl, hx⟩
          go_wp2_with fail
          go_ret
          exact ⟨by rw [HF.out]; rfl, HB2.out.1.trans (hx.mono HB2.out.1.size)⟩
      · have hj' : j = l.length := by omega
        subst hj'
        have hgo := HG.out
        rw [List.take_length] at hgo
        have HGO := Lib.hid (show good (.mk k a b l) = fits (.mk k a b l) by rw [good, hgo, Bool.true_and])
        clear hgo hb hh hlt HG HI HZ HK
        by_cases h1 : k = 1
        · subst h1
          have HF := Lib.hid (show good (.mk 1 a b l) = (a.toList.isEmpty && b.toList.isEmpty && l.length == 0) by rw [HGO.out, fits, empty_iff, empty_iff]; simp)
          clear HGO
          go_wp2_with fail
          all_goals (go_ret; exact ⟨by rw [HF.out]; simp_all [len_zero] <;> omega, HB2.out.1⟩)
        by_cases h2 : k = 2
        · subst h2
          have HF := Lib.hid (show good (.mk 2 a b l) = (Tr.word a && b.toList.isEmpty && l.length == 0) by rw [HGO.out, fits, empty_iff, empty_iff]; simp)
          clear HGO
          go_wp2_with fail
          refine (HA.out _).mono ?_
          rintro e x ⟨rfl, hx⟩
          obtain ⟨-, -, d2, d3⟩ := (HB2.out.2.on hx).cells
          have HX := Lib.hid hx
          clear b0 b1 b2 b3 hx
          go_wp2_with fail
          all_goals (go_ret; exact ⟨by rw [HF.out]; simp_all [len_zero], HB2.out.1.trans (HX.out.mono HB2.out.1.size)⟩)
        by_cases h3 : k = 3
        · subst h3
          have HF := Lib.hid (show good (.mk 3 a b l) = (Tr.word a && Tr.word b && l.length == 0) by rw [HGO.out, fits, empty_iff, empty_iff]; simp)
          clear HGO
          go_wp2_with fail
          refine (HA.out _).mono ?_
          rintro e x ⟨rfl, hx⟩
          obtain ⟨-, -, d2, d3⟩ := (HB2.out.2.on hx).cells
          have HX := Lib.hid hx
          clear b0 b1 b2 b3 hx
          go_wp2_with fail
          all_goals first
            | (go_ret; exact ⟨by rw [HF.out]; simp_all, HB2.out.1.trans (HX.out.mono HB2.out.1.size)⟩)
            | (refine (HB.out _).mono ?_
               rintro e y ⟨rfl, hy⟩
               obtain ⟨-, -, -, e3⟩ := ((HB2.out.2.on HX.out).on hy).cells
               go_wp2_with fail
               all_goals (go_ret; exact ⟨by rw [HF.out]; simp_all [len_zero], (HB2.out.1.trans (HX.out.mono HB2.out.1.size)).trans (hy.mono (Nat.le_trans HB2.out.1.size HX.out.size))⟩))
        by_cases h4 : k = 4
        · subst h4
          have HF := Lib.hid (show good (.mk 4 a b l) = (a.toList.isEmpty && b.toList.isEmpty && decide (2 ≤ l.length)) by rw [HGO.out, fits, empty_iff, empty_iff]; simp)
          clear HGO
          go_wp2_with fail
          all_goals (go_ret; exact ⟨by rw [HF.out]; simp_all <;> omega, HB2.out.1⟩)
        by_cases h5 : k = 5
        · subst h5
          have HF := Lib.hid (show good (.mk 5 a b l) = (a.toList.isEmpty && b.toList.isEmpty && decide (2 ≤ l.length)) by rw [HGO.out, fits, empty_iff, empty_iff]; simp)
          clear HGO
          go_wp2_with fail
          all_goals (go_ret; exact ⟨by rw [HF.out]; simp_all <;> omega, HB2.out.1⟩)
        by_cases h6 : k = 6
        · subst h6
          have HF := Lib.hid (show good (.mk 6 a b l) = (a.toList.isEmpty && b.toList.isEmpty && l.length == 2) by rw [HGO.out, fits, empty_iff, empty_iff]; simp)
          clear HGO
          go_wp2_with fail
          all_goals (go_ret; exact ⟨by rw [HF.out]; simp_all [len_two] <;> omega, HB2.out.1⟩)
        have HF := Lib.hid (show good (.mk k a b l) = false by rw [HGO.out, fits]; simp [h1, h2, h3, h4, h5, h6])
        have e1 : (k == 1) = false := by simpa using h1
        have e2 : (k == 2) = false := by simpa using h2
        have e3 : (k == 3) = false := by simpa using h3
        have e4 : (k == 4) = false := by simpa using h4
        have e5 : (k == 5) = false := by simpa using h5
        have e6 : (k == 6) = false := by simpa using h6
        clear h1 h2 h3 h4 h5 h6 HGO
        go_wp2_with fail
        all_goals (go_ret; exact ⟨by rw [HF.out]; rfl, HB2.out.1⟩)
end Gr
end Go.Proofs.YticcldohgbpcbaaGreatDoor
