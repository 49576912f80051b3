/-
  HedgeRanks, walked: for every list of keys it answers true.
-/
import Derived.Test.YtldacdpejncbnaaHgFill
import Derived.Laws.Cover1
namespace Go.Proofs.Ytldacdpejncbnaa
open Go.RowKit
namespace Hg.LawH15R
open Knot (Turns NewRow)
open Tr (own_below own_slice)

def num (j : Nat) : Option Int := some (j : Int)
set_option maxHeartbeats 8000000 in
set_option maxRecDepth 100000 in
theorem walk (l : List ByteArray) (v : Value) (w : World) (hl : IsTx w v l) :
    Calls Try.prog 5 #[v] w fun e x => e = .returned (.bool true) ∧ Below w.heap.size w x := by
  obtain ⟨vo, vcap, rfl, hlx⟩ := id hl
  have HL := Lib.hid hl
  have HA := Lib.hid (fun w => awake_any w)
  clear hl hlx
  by_cases hn : l.length ≤ 100
  · go_enter Try.func5, Try.ntmps5
    go_wp2_with fail
    refine (new_al w).mono ?_
    rintro e x0 ⟨rfl, hA, hb0⟩
    obtain ⟨p, hp⟩ : ∃ p, p = w.heap.size := ⟨_, rfl⟩
    rw [← hp] at hA ⊢
    have HB0 := Lib.hid (And.intro hA (And.intro hb0 hp))
    clear hA hb0 hp
    go_wp2_with fail
    refine (HA.out x0).mono ?_
    rintro e x1 ⟨rfl, hb1⟩
    have hbb := HB0.out.2.1.trans (hb1.mono HB0.out.2.1.size)
    have HB1 := Lib.hid (And.intro (HB0.out.1.on hb1) (And.intro hbb HB0.out.2.2))
    clear hb1 hbb
    go_wp2_with fail
    go_loopw [26] (fun i wr => ∃ (j : Nat) (t : T), j ≤ l.length ∧ i = .int .i64 (j : Int) ∧ Hid (Al p p wr t ∧ t.ents = fillN l num j ∧ Below w.heap.size w wr)) (fun i _ => l.length - (intOf i).toNat)
    case atStart => exact ⟨0, .nil, Nat.zero_le _, rfl, HB1.out.1, rfl, HB1.out.2.1⟩
    case round =>
      obtain ⟨j, t, hj, rfl, HS⟩ := hrel
      by_cases hlt : j < l.length
      · obtain ⟨b, o, cap, he, hix, hc⟩ := (HL.out.on HS.out.2.2).at hlt
        obtain ⟨rfl, -, rfl⟩ := Value.slice.inj he
        have hnx := fillN_succ hlt (f := num) (x := (j : Int)) rfl
        obtain ⟨s, hs⟩ : ∃ s, s = l[j] := ⟨_, rfl⟩
        rw [← hs] at hc hnx
        have HNx := Lib.hid hnx
        clear hnx hs
        by_cases hsz : s.size ≤ 200
        · have hP := put_al HS.out.1 (by have := HS.out.2.2.size; have := HB1.out.2.2; omega) s (j : Int) (by unfold keyMax; omega) (by rw [HS.out.2.1]; have := fillN_len l num j; omega)
          have HP := Lib.hid hP
          clear hP
          go_wp2_with fail
          refine HP.out.mono ?_
          rintro e y ⟨rfl, t', h1, h2, h3⟩
          have HN := Lib.hid (And.intro h1 (And.intro (show t'.ents = fillN l num (j + 1) by rw [h2, HNx.out, HS.out.2.1]) (HS.out.2.2.trans (by rw [← HB1.out.2.2]; exact h3))))
          clear h1 h2 h3
          go_wp2_with fail
          go_roundw
          case rel => exact ⟨j + 1, t', by omega, by go_num, HN⟩
          case measure => simp [intOf]; omega
        · go_wp2_with fail
          go_ret
          exact ⟨rfl, HS.out.2.2⟩
      · have hjl : j = l.length := by omega
        have HJ := Lib.hid hjl
        clear hjl
        have hen := HS.out.2.1
        rw [HJ.out] at hen
        have hR := fillN_rises l num l.length
        have hlen := fillN_len l num l.length
        have hfr := fillN_from l num l.length
        rw [← hen] at hR hlen hfr
        have hfrom := from_row HS.out.1.h ByteArray.empty 1073741824
        rw [upon_empty, List.take_of_length_le (by omega)] at hfrom
        have HF := Lib.hid hfrom
        have HE := Lib.hid (And.intro hR hfr)
        clear hen hR hfr hfrom
        go_wp2_with fail
        refine HF.out.mono ?_
        rintro e y ⟨ov, rfl, ho, hb⟩
        obtain ⟨ao, oc, rfl⟩ := own_slice ho
        have HO := Lib.hid (And.intro (show Ro tEn y _ _ from own_base ho (Nat.zero_le _)) (And.intro (HS.out.1.on hb) (HS.out.2.2.trans (hb.mono HS.out.2.2.size))))
        clear ho hb HF
        have HLn := Lib.hid (fun z (hz : Below y.heap.size y z) => len_row (HO.out.2.1.on hz).h)
        go_wp2_with fail
        refine (HLn.out y (Below.refl _ _)).mono ?_
        rintro e _ ⟨rfl, hx⟩
        rw [hx]
        clear hx
        go_wp2_with fail
        have HY := Lib.hid (show ∀ z, Below y.heap.size y z → Below w.heap.size w z from fun z hz => HO.out.2.2.trans (hz.mono HO.out.2.2.size))
        obtain ⟨n, hnl⟩ : ∃ n, n = t.ents.length := ⟨_, rfl⟩
        have HNL := Lib.hid hnl
        rw [← hnl] at hlen ⊢
        clear hnl
        go_loopw [48] (fun i wr => ∃ (j : Nat), j ≤ n ∧ i = .int .i64 (j : Int) ∧ Hid (Below y.heap.size y wr)) (fun i _ => n - (intOf i).toNat)
        case atStart => exact ⟨0, Nat.zero_le _, rfl, Lib.hid (Below.refl _ _)⟩
        case round =>
          obtain ⟨m, hm, rfl, HZ⟩ := hrel
          by_cases hlt : m < n
          · have hlt' : m < t.ents.length := by rw [← HNL.out]; exact hlt
            obtain ⟨g, cp, he, -, q1, q2⟩ := (HO.out.1.on HZ.out).at hlt'
            obtain ⟨rfl, -, rfl⟩ := Value.slice.inj he
            have hi := idxE (g := g) (n := n) (cap := oc) hlt
            have hrk := rank_at HE.out.1 hlt'
            have hgt := get_nth HE.out.1 hlt'
            obtain ⟨c, hcl, hkc, hac⟩ := HE.out.2 _ (List.getElem_mem hlt')
            have hac' : t.ents[m].2 = (c : Int) := (Option.some.inj hac).symm
            have hprev : ∀ m', m = m' + 1 → ∃ k', (∀ W, Below y.heap.size y W → W.cell? ⟨g, m' * 2, none⟩ = some (.string k')) ∧ cmp k' t.ents[m].1 < 0 := fun m' e => by
              have hlp : m' < t.ents.length := by omega
              refine ⟨t.ents[m'].1, fun W hW => ?_, rises_nth HE.out.1 (by omega) hlt'⟩
              obtain ⟨g', cp', he', -, q1', -⟩ := (HO.out.1.on hW).at hlp
              cases he'
              exact q1'
            obtain ⟨k, hk⟩ : ∃ s, s = t.ents[m].1 := ⟨_, rfl⟩
            rw [hac'] at q2 hgt
            rw [← hk] at q1 hrk hgt hkc hprev
            clear hac hac' hk
            have hcl' : c < l.length := by omega
            obtain ⟨b, o, cap, hev, hix, hcc⟩ := HL.out.at hcl'
            obtain ⟨rfl, -, rfl⟩ := Value.slice.inj hev
            have hkc' : l[c] = k := by
              rw [List.getElem?_eq_getElem hcl'] at hkc
              exact Option.some.inj hkc
            rw [hkc'] at hcc
            have HKC := Lib.hid (show ∀ W, Below y.heap.size y W → W.cell? ⟨b, o + c, none⟩ = some (.string k) from fun W hW => ((HY.out W hW).cell (World.block_lt_of_cell? w _ hcc)).trans hcc)
            clear hkc hkc' hcc
            have hnew := heap_alloc_new wr (.cells #[.string k, .int .i64 (c : Int)] tEn)
            have hba : Below wr.heap.size wr (wr.alloc (.cells #[.string k, .int .i64 (c : Int)] tEn)) := (Below.refl _ _).alloc (Nat.le_refl _) _
            obtain ⟨W1, hW1⟩ : ∃ W1, W1 = wr.alloc (.cells #[.string k, .int .i64 (c : Int)] tEn) := ⟨_, rfl⟩
            rw [← hW1] at hnew hba
            have hyw := HZ.out.trans (hba.mono HZ.out.size)
            have hget := get_row (HO.out.2.1.on hyw).h k
            rw [hgt] at hget
            have HG := Lib.hid hget
            have hrow := fun z (hz : Below y.heap.size y z) => rank_row (HO.out.2.1.on hz).h k
            rw [hrk] at hrow
            have HR := Lib.hid hrow
            have HW := Lib.hid hW1
            have HP := Lib.hid hprev
            have hc0 : W1.cell? ⟨wr.heap.size, 0, none⟩ = some (.string k) := by rw [Lib.cell_of_heap hnew]; rfl
            have hc1 : W1.cell? ⟨wr.heap.size, 1, none⟩ = some (.int .i64 (c : Int)) := by rw [Lib.cell_of_heap hnew]; rfl
            have hcc := HKC.out W1 hyw
            have HYW := Lib.hid hyw
            clear hget hgt hrow hrk hW1 hprev hnew hba hyw
            have e1 : (k.toList == k.toList) = true := by simp
            cases m with
            | zero =>
              go_wp2_with fail
              rw [← HW.out]
              clear HW
              refine HG.out.mono ?_
              rintro e _ ⟨rfl, hx⟩
              rw [hx]
              clear hx q1 q2
              go_wp2_with fail
              go_quiet ((go_at_call 17; exact Calls.quiet_of_same (HR.out _ (HYW.out.trans ((below_drewN (Below.refl _ _) _).mono HYW.out.size)))))
              have HN := Lib.hid (below_drewN HYW.out nq)
              go_wp2_with fail
              go_roundw
              case rel => exact ⟨1, by omega, by go_num, HN⟩
              case measure => simp [intOf]; omega
            | succ m' =>
              obtain ⟨k', hq', hlt2⟩ := HP.out m' rfl
              have q3 := hq' W1 HYW.out
              have hi' := idxE (g := g) (n := n) (cap := oc) (i := m') (by omega)
              have e2 := less_of hlt2
              have w1 : IntKind.i64.wrap (m' : Int) = (m' : Int) := by rw [IntKind.wrap_i64]; omega
              clear hq' hlt2
              go_wp2_with fail
              rw [← HW.out]
              clear HW
              refine HG.out.mono ?_
              rintro e _ ⟨rfl, hx⟩
              rw [hx]
              clear hx q1 q2
              go_wp2_with fail
              go_quiet ((go_at_call 17; exact Calls.quiet_of_same (HR.out _ (HYW.out.trans ((below_drewN (Below.refl _ _) _).mono HYW.out.size)))))
              have HN := Lib.hid (below_drewN HYW.out nq)
              go_wp2_with fail
              go_roundw
              case rel => exact ⟨m' + 1 + 1, by omega, by go_num, HN⟩
              case measure => simp [intOf]; omega
          · have HF0 := Lib.hid (fun z (hz : Below y.heap.size y z) (c : Int) => from_row (HO.out.2.1.on hz).h ByteArray.empty c)
            go_wp2_with fail
            refine (HF0.out wr HZ.out 0).mono ?_
            rintro e z ⟨ov, rfl, ho, hb⟩
            obtain ⟨ao1, oc1, rfl⟩ := own_slice ho
            have HZ1 := Lib.hid (HZ.out.trans (hb.mono HZ.out.size))
            clear ho hb
            go_wp2_with fail
            refine (HF0.out z HZ1.out (-1)).mono ?_
            rintro e z2 ⟨ov, rfl, ho, hb⟩
            obtain ⟨ao2, oc2, rfl⟩ := own_slice ho
            have HZ2 := Lib.hid (HZ1.out.trans (hb.mono HZ1.out.size))
            clear ho hb
            go_wp2_with fail
            go_ret
            exact ⟨rfl, HY.out _ HZ2.out⟩
  · go_enter Try.func5, Try.ntmps5
    go_wp2_with fail
    refine (new_al w).mono ?_
    rintro e x0 ⟨rfl, -, hb0⟩
    have HB0 := Lib.hid hb0
    clear hb0
    go_wp2_with fail
    refine (HA.out x0).mono ?_
    rintro e x1 ⟨rfl, hb1⟩
    have HB1 := Lib.hid (HB0.out.trans (hb1.mono HB0.out.size))
    clear hb1
    go_wp2_with fail
    refine (HA.out x1).mono ?_
    rintro e x2 ⟨rfl, hb2⟩
    have HB2 := Lib.hid (HB1.out.trans (hb2.mono HB1.out.size))
    clear hb2
    go_wp2_with fail
    go_ret
    exact ⟨rfl, HB2.out⟩
end Hg.LawH15R
end Go.Proofs.Ytldacdpejncbnaa
