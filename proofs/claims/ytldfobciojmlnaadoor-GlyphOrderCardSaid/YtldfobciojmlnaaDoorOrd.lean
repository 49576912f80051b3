/-
  Compare: what glyph.Compare and the document's Compare answer; and the statement GlyphOrder at any two texts.
-/
import Derived.Test.YtldfobciojmlnaaDoorNamesB
import Derived.Test.YtldfobciojmlnaaDoorOrdPure
namespace Go.Proofs.YtldfobciojmlnaaDoor
open Go.RowKit

namespace Gl
theorem compare_any (a b : ByteArray) (w : World) :
    Calls Tryd.prog 23 #[.string a, .string b] w fun e w' => e = .returned (.int .i64 (Lib.compareBytes a.data.toList b.data.toList)) ∧ w = w' := by
  have H := Lib.hid (fun W => flip (Tryd.strings_Compare a b W))
  go_enter Tryd.func23, Tryd.ntmps23
  go_wp2_with (go_at_call 44; refine (H.out _).mono ?_; rintro e w1 ⟨rfl, rfl⟩)
  go_ret
  exact ⟨rfl, rfl⟩
end Gl
namespace Ref

theorem ints_any (x y : Int) (w : World) :
    Calls Tryd.prog 25 #[.int .i64 x, .int .i64 y] w fun e w' => e = .returned (.int .i64 (Gly.ints x y)) ∧ w' = w := by
  by_cases c1 : x < y
  · rw [show Gly.ints x y = -1 by rw [Gly.ints, if_pos c1]]
    go_enter Tryd.func25, Tryd.ntmps25
    go_wp2
    go_ret
    exact ⟨rfl, rfl⟩
  · by_cases c2 : y < x
    · rw [show Gly.ints x y = 1 by rw [Gly.ints, if_neg c1, if_pos c2]]
      go_enter Tryd.func25, Tryd.ntmps25
      go_wp2
      go_ret
      exact ⟨rfl, rfl⟩
    · rw [show Gly.ints x y = 0 by rw [Gly.ints, if_neg c1, if_neg c2]]
      go_enter Tryd.func25, Tryd.ntmps25
      go_wp2
      go_ret
      exact ⟨rfl, rfl⟩

set_option maxHeartbeats 4000000 in
set_option maxRecDepth 100000 in
theorem compare_any (a b : ByteArray) (w : World) (ha : a.size ≤ 1000000) (hb : b.size ≤ 1000000) :
    Calls Tryd.prog 24 #[.string a, .string b] w fun e w' => e = .returned (.int .i64 (Lib.compareBytes a.data.toList b.data.toList)) ∧ Below w.heap.size w w' := by
  go_enter Tryd.func24, Tryd.ntmps24
  go_wp2
  go_loopw [5] (fun i wr => ∃ (k : Nat), i = .int .i64 k ∧ Below w.heap.size w wr ∧ Hid (Lib.compareBytes (a.data.toList.drop k) (b.data.toList.drop k) = Lib.compareBytes a.data.toList b.data.toList) ∧ k ≤ a.size ∧ k ≤ b.size) (fun i _ => a.size - (intOf i).toNat)
  case atStart => exact ⟨0, rfl, Below.refl _ _, rfl, by omega, by omega⟩
  case round =>
    obtain ⟨k, rfl, hbw, HS, hka, hkb⟩ := hrel
    by_cases h1 : k < a.size
    · by_cases h2 : k < b.size
      · have hst := Gly.cmp_step (Gl.drop_ne h1) (Gl.drop_ne h2)
        rw [byte_at0 h1, byte_at0 h2, List.drop_drop, List.drop_drop, HS.out] at hst
        have b1 := (a[k]).toNat_lt
        have b2 := (b[k]).toNat_lt
        by_cases he : (a[k]).toNat = (b[k]).toNat
        · rw [if_neg (by omega), if_neg (by omega)] at hst
          have HN := Lib.hid hst.symm
          have e1 : (((a[k]).toNat : Int) != ((b[k]).toNat : Int)) = false := by rw [he]; simp
          clear hst he
          go_wp2
          go_quiet (fail)
          go_wp2
          go_roundw
          case rel => exact ⟨k + 1, by go_num, below_drewN hbw _, HN, by omega, by omega⟩
          case measure => simp [intOf]; omega
        · have hi : Gly.ints ((a[k]).toNat : Int) ((b[k]).toNat : Int) = Lib.compareBytes a.data.toList b.data.toList := by
            rw [hst, Gly.ints]
            by_cases c : (a[k]).toNat < (b[k]).toNat
            · rw [if_pos (by omega), if_pos c]
            · rw [if_neg (by omega), if_pos (by omega), if_neg c, if_pos (by omega)]
          have hcl := fun W => ints_any ((a[k]).toNat : Int) ((b[k]).toNat : Int) W
          rw [hi] at hcl
          have HC := Lib.hid hcl
          have e1 : (((a[k]).toNat : Int) != ((b[k]).toNat : Int)) = true := by rw [bne_iff_ne]; omega
          clear hst he hi hcl
          go_wp2
          go_quiet (fail)
          go_wp2_with fail
          have hw1 : IntKind.i64.wrap ((a[k]).toNat : Int) = ((a[k]).toNat : Int) := by rw [IntKind.wrap_i64]; omega
          have hw2 : IntKind.i64.wrap ((b[k]).toNat : Int) = ((b[k]).toNat : Int) := by rw [IntKind.wrap_i64]; omega
          go_quiet ((go_at_call 25; exact Gl.quiet_add_same (HC.out _)))
          go_wp2
          go_ret
          exact ⟨rfl, below_drewN (below_drewN hbw _) _⟩
      · have hst := Gly.cmp_end (a := a.data.toList.drop k) (b := b.data.toList.drop k) (Or.inr (Gl.drop_end h2))
        rw [HS.out, List.length_drop, List.length_drop, ← Lib.size_eq, ← Lib.size_eq] at hst
        have hi : Gly.ints (a.size : Int) (b.size : Int) = Lib.compareBytes a.data.toList b.data.toList := by rw [hst]; unfold Gly.ints; repeat' split <;> omega
        have hcl := fun W => ints_any (a.size : Int) (b.size : Int) W
        rw [hi] at hcl
        have HC := Lib.hid hcl
        clear hst hi hcl
        go_wp2_with (go_at_call 25; refine (HC.out _).mono ?_; rintro e w2 ⟨rfl, rfl⟩)
        go_ret
        exact ⟨rfl, hbw⟩
    · have hst := Gly.cmp_end (a := a.data.toList.drop k) (b := b.data.toList.drop k) (Or.inl (Gl.drop_end h1))
      rw [HS.out, List.length_drop, List.length_drop, ← Lib.size_eq, ← Lib.size_eq] at hst
      have hi : Gly.ints (a.size : Int) (b.size : Int) = Lib.compareBytes a.data.toList b.data.toList := by rw [hst]; unfold Gly.ints; repeat' split <;> omega
      have hcl := fun W => ints_any (a.size : Int) (b.size : Int) W
      rw [hi] at hcl
      have HC := Lib.hid hcl
      clear hst hi hcl
      go_wp2_with (go_at_call 25; refine (HC.out _).mono ?_; rintro e w2 ⟨rfl, rfl⟩)
      go_ret
      exact ⟨rfl, hbw⟩

theorem own_below {w w' : World} {B : Nat} {e : TypeId} {v : Value} {n : Nat} {xs : List Value} (h : w.ownsRow B e 1 v n xs) (hb : Below w.heap.size w w') : w'.ownsRow B e 1 v n xs := by
  refine ⟨h.1, ?_⟩
  rcases h.2 with h0 | ⟨g, cap, cur, hv, hBg, hg, rest⟩
  · exact .inl h0
  · exact .inr ⟨g, cap, cur, hv, hBg, (hb.block g (Bld.lt_of_heap hg)).trans hg, rest⟩
theorem own_drewN {w : World} {B : Nat} {e : TypeId} {v : Value} {n : Nat} {xs : List Value} (h : w.ownsRow B e 1 v n xs) (k : Nat) : (w.drewN k).ownsRow B e 1 v n xs := h
theorem nums_cell {w : World} {B g cap : Nat} {t : List Nat} (h : w.ownsRow B 3 1 (.slice (some ⟨g, 0, none⟩) t.length cap) t.length (nums t)) {k : Nat} (hk : k < t.length) : w.cell? ⟨g, k, none⟩ = some (.int .i64 (t[k] : Int)) := by
  have := h.cellAt k (by rw [Nat.mul_one]; exact hk)
  rwa [show (nums t)[k]? = some (.int .i64 (t[k] : Int)) by simp [nums, hk]] at this

theorem cmpN_step {x y : List Nat} {k : Nat} (h1 : k < x.length) (h2 : k < y.length) : Gly.cmpN (x.drop k) (y.drop k) = if x[k] < y[k] then -1 else if y[k] < x[k] then 1 else Gly.cmpN (x.drop (k + 1)) (y.drop (k + 1)) := by
  rw [List.drop_eq_getElem_cons h1, List.drop_eq_getElem_cons h2]
  rfl
end Ref
namespace LawOrder

set_option maxHeartbeats 4000000 in
set_option maxRecDepth 100000 in
theorem walk (s1 s2 : ByteArray) (w : World) (hs1 : s1.size ≤ maxLen) (hs2 : s2.size ≤ maxLen) (hT : Num.Tab w) :
    Calls Tryd.prog 8 #[.string s1, .string s2] w fun e w' => e = .returned (.bool true) ∧ Below w.heap.size w w' := by
  unfold maxLen at hs1 hs2
  have HA := Lib.hid (fun w hT => Ref.awake_any w hT)
  have HT := Lib.hid hT
  clear hT
  by_cases hl : s1.size ≤ 1000 ∧ s2.size ≤ 1000
  · obtain ⟨l1, l2⟩ := hl
    have h1 := fun w => Gl.compare_any s1 s2 w
    have h2 := fun w => Gl.compare_any s2 s1 w
    have h3 := fun w => Ref.compare_any s1 s2 w (by omega) (by omega)
    have hbd := Gly.cmp_bounds s1.data.toList s2.data.toList
    have hcx : ∀ x y, Gly.runes s1.data.toList = some x → Gly.runes s2.data.toList = some y → Lib.compareBytes s1.data.toList s2.data.toList = Gly.cmpN x y := fun x y => Gly.runes_cmp _ _ _ x y (Nat.le_refl _)
    rw [Gly.cmp_anti s1.data.toList] at h2
    generalize Lib.compareBytes s1.data.toList s2.data.toList = c at *
    obtain ⟨c1, c2⟩ := hbd
    have H1 := Lib.hid h1
    have H2 := Lib.hid h2
    have H3 := Lib.hid h3
    clear h1 h2 h3
    have hu1 := fun w => Ref.runes_any s1 w (by omega)
    have hu2 := fun w => Ref.runes_any s2 w (by omega)
    cases hr1 : Gly.runes s1.data.toList with
    | none =>
      rw [hr1] at hu1
      have HU1 := Lib.hid hu1
      clear hu1 hr1 hcx
      cases hr2 : Gly.runes s2.data.toList with
      | none =>
        rw [hr2] at hu2
        have HU2 := Lib.hid hu2
        clear hu2 hr2
        go_enter Tryd.func8, Tryd.ntmps8
        go_wp2_with (go_at_call 9; refine (HA.out _ HT.out).mono ?_; rintro e w1 ⟨rfl, b1⟩)
        go_wp2_with fail
        refine (H1.out _).mono ?_
        rintro e w2 ⟨rfl, rfl⟩
        go_wp2_with (go_at_call 24; refine (H3.out _).mono ?_; rintro e w3 ⟨rfl, b3⟩)
        replace b3 := b1.trans (b3.mono b1.size)
        go_wp2_with fail
        refine (H2.out _).mono ?_
        rintro e w4 ⟨rfl, rfl⟩
        go_wp2_with fail
        refine (HU1.out _).mono ?_
        rintro e w5 ⟨rfl, b5⟩
        replace b5 := b3.trans (b5.mono b3.size)
        go_wp2_with fail
        refine (HU2.out _).mono ?_
        rintro e w6 ⟨rfl, b6⟩
        replace b6 := b5.trans (b6.mono b5.size)
        go_wp2
        go_ret
        exact ⟨rfl, b6⟩
      | some y =>
        rw [hr2] at hu2
        have HU2 := Lib.hid hu2
        clear hu2 hr2
        go_enter Tryd.func8, Tryd.ntmps8
        go_wp2_with (go_at_call 9; refine (HA.out _ HT.out).mono ?_; rintro e w1 ⟨rfl, b1⟩)
        go_wp2_with fail
        refine (H1.out _).mono ?_
        rintro e w2 ⟨rfl, rfl⟩
        go_wp2_with (go_at_call 24; refine (H3.out _).mono ?_; rintro e w3 ⟨rfl, b3⟩)
        replace b3 := b1.trans (b3.mono b1.size)
        go_wp2_with fail
        refine (H2.out _).mono ?_
        rintro e w4 ⟨rfl, rfl⟩
        go_wp2_with fail
        refine (HU1.out _).mono ?_
        rintro e w5 ⟨rfl, b5⟩
        replace b5 := b3.trans (b5.mono b3.size)
        go_wp2_with fail
        refine (HU2.out _).mono ?_
        rintro e w6 ⟨v, rfl, _, b6⟩
        replace b6 := b5.trans (b6.mono b5.size)
        go_wp2
        go_ret
        exact ⟨rfl, b6⟩
    | some x =>
      have xl := Gly.runes_len _ _ (Nat.le_refl _) x hr1
      rw [← Lib.size_eq] at xl
      rw [hr1] at hu1
      have HU1 := Lib.hid hu1
      clear hu1
      cases hr2 : Gly.runes s2.data.toList with
      | none =>
        rw [hr2] at hu2
        have HU2 := Lib.hid hu2
        clear hu2 hr2 hr1 hcx
        go_enter Tryd.func8, Tryd.ntmps8
        go_wp2_with (go_at_call 9; refine (HA.out _ HT.out).mono ?_; rintro e w1 ⟨rfl, b1⟩)
        go_wp2_with fail
        refine (H1.out _).mono ?_
        rintro e w2 ⟨rfl, rfl⟩
        go_wp2_with (go_at_call 24; refine (H3.out _).mono ?_; rintro e w3 ⟨rfl, b3⟩)
        replace b3 := b1.trans (b3.mono b1.size)
        go_wp2_with fail
        refine (H2.out _).mono ?_
        rintro e w4 ⟨rfl, rfl⟩
        go_wp2_with fail
        refine (HU1.out _).mono ?_
        rintro e w5 ⟨v, rfl, _, b5⟩
        replace b5 := b3.trans (b5.mono b3.size)
        go_wp2_with fail
        refine (HU2.out _).mono ?_
        rintro e w6 ⟨rfl, b6⟩
        replace b6 := b5.trans (b6.mono b5.size)
        go_wp2
        go_ret
        exact ⟨rfl, b6⟩
      | some y =>
        have yl := Gly.runes_len _ _ (Nat.le_refl _) y hr2
        rw [← Lib.size_eq] at yl
        have hcc := hcx x y hr1 hr2
        have mx1 := Ref.runes_max _ _ (Nat.le_refl _) x hr1
        have mx2 := Ref.runes_max _ _ (Nat.le_refl _) y hr2
        rw [hr2] at hu2
        have HU2 := Lib.hid hu2
        have HCC := Lib.hid hcc
        have M1 := Lib.hid mx1
        have M2 := Lib.hid mx2
        clear hu2 hr2 hr1 hcx hcc mx1 mx2
        go_enter Tryd.func8, Tryd.ntmps8
        go_wp2_with (go_at_call 9; refine (HA.out _ HT.out).mono ?_; rintro e w1 ⟨rfl, b1⟩)
        go_wp2_with fail
        refine (H1.out _).mono ?_
        rintro e w2 ⟨rfl, rfl⟩
        go_wp2_with (go_at_call 24; refine (H3.out _).mono ?_; rintro e w3 ⟨rfl, b3⟩)
        replace b3 := b1.trans (b3.mono b1.size)
        go_wp2_with fail
        refine (H2.out _).mono ?_
        rintro e w4 ⟨rfl, rfl⟩
        go_wp2_with fail
        refine (HU1.out _).mono ?_
        rintro e w5 ⟨v1, rfl, o1, b5⟩
        obtain ⟨a1, k1, rfl⟩ := Ref.owned_any o1
        replace b5 := b3.trans (b5.mono b3.size)
        go_wp2_with fail
        refine (HU2.out _).mono ?_
        rintro e w6 ⟨v2, rfl, o2, b6⟩
        obtain ⟨a2, k2, rfl⟩ := Ref.owned_any o2
        replace o1 := Ref.own_below o1 b6
        replace b6 := b5.trans (b6.mono b5.size)
        go_wp2
        go_loopw [10] (fun i wr => ∃ (k : Nat), i = .int .i64 k ∧ Below w.heap.size w wr ∧ wr.ownsRow w3.heap.size 3 1 (.slice a1 x.length k1) x.length (Ref.nums x) ∧ wr.ownsRow w5.heap.size 3 1 (.slice a2 y.length k2) y.length (Ref.nums y) ∧ Hid (Gly.cmpN (x.drop k) (y.drop k) = c) ∧ k ≤ x.length ∧ k ≤ y.length) (fun i _ => x.length - (intOf i).toNat)
        case atStart => exact ⟨0, rfl, b6, o1, o2, Lib.hid (by rw [HCC.out]; rfl), by omega, by omega⟩
        case round =>
          clear o1 o2
          obtain ⟨k, rfl, hbw, o1, o2, HS, hk1, hk2⟩ := hrel
          by_cases g1 : k < x.length
          · by_cases g2 : k < y.length
            · obtain ⟨ga, ca, hv1⟩ := Ref.owned_some o1 (by omega)
              obtain ⟨gb, cb, hv2⟩ := Ref.owned_some o2 (by omega)
              cases hv1
              cases hv2
              have e1 := Ref.nums_cell o1 g1
              have e2 := Ref.nums_cell o2 g2
              have hst := Ref.cmpN_step g1 g2
              rw [HS.out] at hst
              have m1 := M1.out _ (List.getElem_mem g1)
              have m2 := M2.out _ (List.getElem_mem g2)
              generalize x[k] = xk at *
              generalize y[k] = yk at *
              by_cases he : xk = yk
              · subst he
                rw [if_neg (by omega), if_neg (by omega)] at hst
                have HN := Lib.hid hst.symm
                clear hst
                go_wp2
                go_quiet (fail)
                go_wp2
                go_roundw
                case rel => exact ⟨k + 1, by go_num, below_drewN hbw _, Ref.own_drewN o1 _, Ref.own_drewN o2 _, HN, by omega, by omega⟩
                case measure => simp [intOf]; omega
              · have hi : Gly.ints (xk : Int) (yk : Int) = c := by
                  rw [hst, Gly.ints]
                  by_cases c : xk < yk
                  · rw [if_pos (by omega), if_pos c]
                  · rw [if_neg (by omega), if_pos (by omega), if_neg c, if_pos (by omega)]
                have hcl := fun W => Ref.ints_any (xk : Int) (yk : Int) W
                rw [hi] at hcl
                have HC := Lib.hid hcl
                have n1 : ((xk : Int) != (yk : Int)) = true := by rw [bne_iff_ne]; omega
                clear hst he hi hcl
                go_wp2
                go_quiet (fail)
                go_wp2_with fail
                go_quiet ((go_at_call 25; exact Gl.quiet_add_same (HC.out _)))
                go_wp2
                go_ret
                exact ⟨by simp, below_drewN (below_drewN hbw _) _⟩
            · have hst := Gly.cmpN_end (a := x.drop k) (b := y.drop k) (Or.inr (List.drop_of_length_le (by omega)))
              rw [HS.out, List.length_drop, List.length_drop] at hst
              have hi : Gly.ints (x.length : Int) (y.length : Int) = c := by rw [hst]; unfold Gly.ints; repeat' split <;> omega
              have hcl := fun W => Ref.ints_any (x.length : Int) (y.length : Int) W
              rw [hi] at hcl
              have HC := Lib.hid hcl
              clear hst hi hcl
              go_wp2_with (go_at_call 25; refine (HC.out _).mono ?_; rintro e w7 ⟨rfl, rfl⟩)
              go_ret
              exact ⟨by simp, hbw⟩
          · have hst := Gly.cmpN_end (a := x.drop k) (b := y.drop k) (Or.inl (List.drop_of_length_le (by omega)))
            rw [HS.out, List.length_drop, List.length_drop] at hst
            have hi : Gly.ints (x.length : Int) (y.length : Int) = c := by rw [hst]; unfold Gly.ints; repeat' split <;> omega
            have hcl := fun W => Ref.ints_any (x.length : Int) (y.length : Int) W
            rw [hi] at hcl
            have HC := Lib.hid hcl
            clear hst hi hcl
            go_wp2_with (go_at_call 25; refine (HC.out _).mono ?_; rintro e w7 ⟨rfl, rfl⟩)
            go_ret
            exact ⟨by simp, hbw⟩
  · rcases (show 1000 < s1.size ∨ (s1.size ≤ 1000 ∧ 1000 < s2.size) by omega) with h | ⟨h, h'⟩
    all_goals
      clear hl
      go_enter Tryd.func8, Tryd.ntmps8
      go_wp2_with fail
      refine (HA.out _ HT.out).mono ?_
      rintro e w1 ⟨rfl, b1⟩
      go_wp2_with fail
      refine (HA.out _ (HT.out.below b1)).mono ?_
      rintro e w2 ⟨rfl, b2⟩
      replace b2 := b1.trans (b2.mono b1.size)
      go_wp2
      go_ret
      exact ⟨rfl, b2⟩
end LawOrder
end Go.Proofs.YtldfobciojmlnaaDoor
