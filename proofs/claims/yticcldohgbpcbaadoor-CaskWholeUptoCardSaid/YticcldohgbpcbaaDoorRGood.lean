/-
  Layer 5's document at nodes of up to 100000 parts: its Good, and its Same at two readings of one node.
-/
import Derived.Test.YticcldohgbpcbaaDoorMgMem
import Derived.Test.YticcldohgbpcbaaDoorRWord
namespace Go.Proofs.YticcldohgbpcbaaDoor
open Go.RowKit
namespace Gr
open Tr (Nd IsNode IsNodes Box4 node4 good goods fits size sizes word nil none0 size_pos size_kids sizes_len sizes_mem goods_take goods_part rword_any RowAt)
open Who (wp_region_class quiet_of)

theorem empty_iff (s : ByteArray) : nil s = s.toList.isEmpty := by rw [nil, Lib.toList_data]
theorem len_zero (n : Nat) : ((n : Int) == 0) = (n == 0) := by
  by_cases h : n = 0
  · subst h; rfl
  · rw [beq_eq_false_iff_ne.2 h]; simp; omega
theorem len_two (n : Nat) : ((n : Int) == 2) = (n == 2) := by
  by_cases h : n = 2
  · subst h; rfl
  · rw [beq_eq_false_iff_ne.2 h]; simp; omega

set_option maxHeartbeats 8000000 in
set_option maxRecDepth 100000 in
theorem rgood_any : ∀ (q : Nat) (n : Nd) (v : Value) (w : World), size n ≤ q → size n ≤ 100000 → IsNode w n v →
    Calls Tryd.prog 43 #[v] w fun e x => e = .returned (.bool (good n)) ∧ Below w.heap.size w x := by
  intro q
  induction q with
  | zero => intro n v w h; have := size_pos n; omega
  | succ q ih =>
    intro n v w hk hl hn
    obtain ⟨ao, cap, vs, rfl, hs, hks⟩ := hn.kids
    have hsz := size_kids n
    have hlen := sizes_len n.kids
    have HI := Lib.hid ih
    have hlen3 : n.kids.length ≤ 100000 := by omega
    have HZ := Lib.hid (And.intro hsz hk)
    clear hn ih hlen hsz hk
    cases n with
    | mk k a b l =>
    have HK : Hid (Tr.Kids w l ao vs) := hks
    change (Nd.mk k a b l).kids.length ≤ 100000 at hlen3
    change l.length ≤ 100000 at hlen3
    have HA := Lib.hid (fun w => rword_any a w hs.1)
    have HB := Lib.hid (fun w => rword_any b w hs.2)
    clear hks hs
    show Calls _ _ #[node4 k a b (.slice ao l.length cap)] _ _
    go_enter Tryd.func43, Tryd.ntmps43
    go_wp2_with fail
    go_loopw [7] (fun i wr => ∃ j : Nat, j ≤ l.length ∧ i = .int .i64 j ∧ Hid (goods (l.take j) = true) ∧ Box4 w.heap.size k a b (.slice ao l.length cap) wr ∧ Below w.heap.size w wr) (fun i _ => l.length - (intOf i).toNat)
    case atStart => exact ⟨0, by omega, rfl, rfl, Box4.new w _ _ _ _, (Below.refl _ _).alloc (Nat.le_refl _) _⟩
    case round =>
      obtain ⟨j, hj, rfl, HG, hh, hb⟩ := hrel
      have HB2 := Lib.hid (And.intro hb hh)
      obtain ⟨b0, b1, b2, b3⟩ := hh.cells
      by_cases hlt : j < l.length
      · obtain ⟨g, q, sa, sc, hix, hg, c0, c1, c2, c3, hn⟩ := (HK.out.below hb).at cap hlt
        have hm := sizes_mem (List.getElem_mem hlt)
        have hz : size (Nd.mk k a b l) = 1 + sizes l := HZ.out.1
        have hz2 := HZ.out.2
        have hC := HI.out l[j] _ wr (by omega) (by omega) hn
        have ht := goods_take hlt
        rw [HG.out, Bool.true_and] at ht
        have HC := Lib.hid hC
        have HT := Lib.hid ht
        clear hb hn hC hh hm hz hz2 ht
        cases hgd : good l[j] with
        | true =>
          rw [hgd] at HC HT
          clear hgd
          go_wp2_with fail
          refine HC.out.mono ?_
          rintro e x ⟨rfl, hx⟩
          go_wp2_with fail
          go_roundw
          case rel => exact ⟨j + 1, by omega, by go_num, HT, HB2.out.2.on hx, HB2.out.1.trans (hx.mono HB2.out.1.size)⟩
          case measure => simp [intOf]; omega
        | false =>
          rw [hgd] at HC HT
          have HF := Lib.hid (show good (.mk k a b l) = false by rw [good, goods_part HT.out, Bool.false_and])
          clear hgd
          go_wp2_with fail
          refine HC.out.mono ?_
          rintro e x ⟨rfl, hx⟩
          go_wp2_with fail
          go_ret
          exact ⟨by rw [HF.out]; rfl, HB2.out.1.trans (hx.mono HB2.out.1.size)⟩
      · have hj' : j = l.length := by omega
        subst hj'
        have hgo := HG.out
        rw [List.take_length] at hgo
        have HGO := Lib.hid (show good (.mk k a b l) = fits (.mk k a b l) by rw [good, hgo, Bool.true_and])
        clear hgo hb hh hlt HG HI HZ HK
        by_cases h1 : k = 1
        · subst h1
          have HF := Lib.hid (show good (.mk 1 a b l) = (a.toList.isEmpty && b.toList.isEmpty && l.length == 0) by rw [HGO.out, fits, empty_iff, empty_iff]; simp)
          clear HGO
          go_wp2_with fail
          all_goals (go_ret; exact ⟨by rw [HF.out]; simp_all [len_zero] <;> omega, HB2.out.1⟩)
        by_cases h2 : k = 2
        · subst h2
          have HF := Lib.hid (show good (.mk 2 a b l) = (Tr.word a && b.toList.isEmpty && l.length == 0) by rw [HGO.out, fits, empty_iff, empty_iff]; simp)
          clear HGO
          go_wp2_with fail
          refine (HA.out _).mono ?_
          rintro e x ⟨rfl, hx⟩
          obtain ⟨-, -, d2, d3⟩ := (HB2.out.2.on hx).cells
          have HX := Lib.hid hx
          clear b0 b1 b2 b3 hx
          go_wp2_with fail
          all_goals (go_ret; exact ⟨by rw [HF.out]; simp_all [len_zero], HB2.out.1.trans (HX.out.mono HB2.out.1.size)⟩)
        by_cases h3 : k = 3
        · subst h3
          have HF := Lib.hid (show good (.mk 3 a b l) = (Tr.word a && Tr.word b && l.length == 0) by rw [HGO.out, fits, empty_iff, empty_iff]; simp)
          clear HGO
          go_wp2_with fail
          refine (HA.out _).mono ?_
          rintro e x ⟨rfl, hx⟩
          obtain ⟨-, -, d2, d3⟩ := (HB2.out.2.on hx).cells
          have HX := Lib.hid hx
          clear b0 b1 b2 b3 hx
          go_wp2_with fail
          all_goals first
            | (go_ret; exact ⟨by rw [HF.out]; simp_all, HB2.out.1.trans (HX.out.mono HB2.out.1.size)⟩)
            | (refine (HB.out _).mono ?_
               rintro e y ⟨rfl, hy⟩
               obtain ⟨-, -, -, e3⟩ := ((HB2.out.2.on HX.out).on hy).cells
               go_wp2_with fail
               all_goals (go_ret; exact ⟨by rw [HF.out]; simp_all [len_zero], (HB2.out.1.trans (HX.out.mono HB2.out.1.size)).trans (hy.mono (Nat.le_trans HB2.out.1.size HX.out.size))⟩))
        by_cases h4 : k = 4
        · subst h4
          have HF := Lib.hid (show good (.mk 4 a b l) = (a.toList.isEmpty && b.toList.isEmpty && decide (2 ≤ l.length)) by rw [HGO.out, fits, empty_iff, empty_iff]; simp)
          clear HGO
          go_wp2_with fail
          all_goals (go_ret; exact ⟨by rw [HF.out]; simp_all <;> omega, HB2.out.1⟩)
        by_cases h5 : k = 5
        · subst h5
          have HF := Lib.hid (show good (.mk 5 a b l) = (a.toList.isEmpty && b.toList.isEmpty && decide (2 ≤ l.length)) by rw [HGO.out, fits, empty_iff, empty_iff]; simp)
          clear HGO
          go_wp2_with fail
          all_goals (go_ret; exact ⟨by rw [HF.out]; simp_all <;> omega, HB2.out.1⟩)
        by_cases h6 : k = 6
        · subst h6
          have HF := Lib.hid (show good (.mk 6 a b l) = (a.toList.isEmpty && b.toList.isEmpty && l.length == 2) by rw [HGO.out, fits, empty_iff, empty_iff]; simp)
          clear HGO
          go_wp2_with fail
          all_goals (go_ret; exact ⟨by rw [HF.out]; simp_all [len_two] <;> omega, HB2.out.1⟩)
        have HF := Lib.hid (show good (.mk k a b l) = false by rw [HGO.out, fits]; simp [h1, h2, h3, h4, h5, h6])
        have e1 : (k == 1) = false := by simpa using h1
        have e2 : (k == 2) = false := by simpa using h2
        have e3 : (k == 3) = false := by simpa using h3
        have e4 : (k == 4) = false := by simpa using h4
        have e5 : (k == 5) = false := by simpa using h5
        have e6 : (k == 6) = false := by simpa using h6
        clear h1 h2 h3 h4 h5 h6 HGO
        go_wp2_with fail
        all_goals (go_ret; exact ⟨by rw [HF.out]; rfl, HB2.out.1⟩)
set_option maxHeartbeats 4000000 in
set_option maxRecDepth 100000 in
theorem rsame_any : ∀ (q : Nat) (n : Nd) (v u : Value) (w : World), size n ≤ q → size n ≤ 100000 → IsNode w n v → IsNode w n u →
    Calls Tryd.prog 20 #[v, u] w fun e x => e = .returned (.bool true) ∧ Below w.heap.size w x := by
  intro q
  induction q with
  | zero => intro n v u w h; have := size_pos n; omega
  | succ q ih =>
    intro n v u w hk hl hn hm
    obtain ⟨ao, cap, vs, rfl, -, hks⟩ := hn.kids
    obtain ⟨bo, dap, us, rfl, -, kks⟩ := hm.kids
    have hsz := size_kids n
    have hlen := sizes_len n.kids
    have HI := Lib.hid ih
    have hlen3 : n.kids.length ≤ 100000 := by omega
    have HZ := Lib.hid (And.intro hsz hk)
    have HK := Lib.hid (And.intro hks kks)
    clear hn hm ih hlen hsz hk hks kks
    generalize n.kids = l at *
    have N1 := Box4.new w n.kind n.ta n.tb (.slice ao l.length cap)
    have N2 := Box4.new (w.alloc (.cells #[.int .i64 n.kind, .string n.ta, .string n.tb, .slice ao l.length cap] 54)) n.kind n.ta n.tb (.slice bo l.length dap)
    have N3 := N1.on ((Below.refl _ _).alloc (Nat.le_refl _) (.cells #[.int .i64 n.kind, .string n.ta, .string n.tb, .slice bo l.length dap] 54))
    rw [show (w.alloc (.cells #[.int .i64 n.kind, .string n.ta, .string n.tb, .slice ao l.length cap] 54)).heap.size = w.heap.size + 1 by simp] at N2
    have hB : Below w.heap.size w ((w.alloc (.cells #[.int .i64 n.kind, .string n.ta, .string n.tb, .slice ao l.length cap] 54)).alloc (.cells #[.int .i64 n.kind, .string n.ta, .string n.tb, .slice bo l.length dap] 54)) := ((Below.refl _ _).alloc (Nat.le_refl _) _).alloc (by simp) _
    have H0 := Lib.hid (And.intro hB (And.intro N3 N2))
    clear N1 N2 N3 hB
    go_enter Tryd.func20, Tryd.ntmps20
    go_wp2_with fail
    go_loopw [37] (fun i wr => ∃ j : Nat, j ≤ l.length ∧ i = .int .i64 j ∧ Below w.heap.size w wr ∧ Box4 w.heap.size n.kind n.ta n.tb (.slice ao l.length cap) wr ∧ Box4 (w.heap.size + 1) n.kind n.ta n.tb (.slice bo l.length dap) wr) (fun i _ => l.length - (intOf i).toNat)
    case atStart => exact ⟨0, by omega, rfl, H0.out⟩
    case round =>
      obtain ⟨j, hj, rfl, hb, h1, h2⟩ := hrel
      clear H0
      have HR := Lib.hid (And.intro hb (And.intro h1 h2))
      by_cases hlt : j < l.length
      · obtain ⟨g, q, sa, sc, hix, hg, c0, c1, c2, c3, hn⟩ := HK.out.1.at cap hlt
        obtain ⟨g', q', sa', sc', hix', hg', d0, d1, d2, d3, hm⟩ := HK.out.2.at dap hlt
        have hsm := sizes_mem (List.getElem_mem hlt)
        have hz := HZ.out
        have hC := fun x (hx : Below w.heap.size w x) => HI.out l[j] _ _ x (by omega) (by omega) (hn.below hx) (hm.below hx)
        have HC := Lib.hid hC
        have HN := Lib.hid (show ∀ x, Below w.heap.size w x → (x.cell? ⟨g, q, none⟩ = some (.int .i64 l[j].kind) ∧ x.cell? ⟨g, q + 1, none⟩ = some (.string l[j].ta) ∧ x.cell? ⟨g, q + 2, none⟩ = some (.string l[j].tb) ∧ x.cell? ⟨g, q + 3, none⟩ = some (.slice sa l[j].kids.length sc)) ∧
            (x.cell? ⟨g', q', none⟩ = some (.int .i64 l[j].kind) ∧ x.cell? ⟨g', q' + 1, none⟩ = some (.string l[j].ta) ∧ x.cell? ⟨g', q' + 2, none⟩ = some (.string l[j].tb) ∧ x.cell? ⟨g', q' + 3, none⟩ = some (.slice sa' l[j].kids.length sc')) from
          fun x hx => ⟨⟨(hx.cell (p := ⟨g, q, none⟩) hg).trans c0, (hx.cell (p := ⟨g, q + 1, none⟩) hg).trans c1, (hx.cell (p := ⟨g, q + 2, none⟩) hg).trans c2, (hx.cell (p := ⟨g, q + 3, none⟩) hg).trans c3⟩,
            (hx.cell (p := ⟨g', q', none⟩) hg').trans d0, (hx.cell (p := ⟨g', q' + 1, none⟩) hg').trans d1, (hx.cell (p := ⟨g', q' + 2, none⟩) hg').trans d2, (hx.cell (p := ⟨g', q' + 3, none⟩) hg').trans d3⟩)
        clear hb h1 h2 c0 c1 c2 c3 d0 d1 d2 d3 hn hm hg hg' hsm hz hC
        go_wp2_with fail
        refine wp_region_class (C := fun x => Below w.heap.size w x ∧ Box4 w.heap.size n.kind n.ta n.tb (.slice ao l.length cap) x ∧ Box4 (w.heap.size + 1) n.kind n.ta n.tb (.slice bo l.length dap) x) (by kernel_rfl) (by kernel_rfl) ⟨HR.out.1.drew, HR.out.2⟩ ?_
        repeat (first
          | go_big_quiet_skip
          | (go_big_quiet_want
             apply quiet_of
             · intro x hx
               obtain ⟨-, -, -, a3⟩ := hx.2.1.cells
               obtain ⟨-, -, -, b3⟩ := hx.2.2.cells
               obtain ⟨⟨c0, c1, c2, c3⟩, d0, d1, d2, d3⟩ := HN.out x hx.1
               first
                 | (go_simp; rfl)
                 | (clear a3 b3 c0 c1 c2 c3 d0 d1 d2 d3; go_simp; go_at_call 20; refine (HC.out x hx.1).mono ?_; rintro e y ⟨rfl, hy⟩; exact ⟨rfl, hx.1.trans (hy.mono hx.1.size), hx.2.1.on hy, hx.2.2.on hy⟩)
             simp only [Act.put, List.setIfInBounds_toArray, List.set_cons_zero, List.set_cons_succ]
             go_big_quiet_on))
        refine wpQuiet_nil ?_
        intro x hx
        have HX := Lib.hid hx
        clear hx HR
        go_wp2_with fail
        go_roundw
        case rel => exact ⟨j + 1, by omega, by go_num, HX.out⟩
        case measure => simp [intOf]; omega
      · go_wp2_with fail
        go_ret
        exact ⟨rfl, HR.out.1⟩
end Gr
end Go.Proofs.YticcldohgbpcbaaDoor
