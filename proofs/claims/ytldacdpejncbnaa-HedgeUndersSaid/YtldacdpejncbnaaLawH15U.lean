/-
  HedgeUnders, walked: for every list of keys and every prefix it answers true.
-/
import Derived.Test.YtldacdpejncbnaaHgFill
import Derived.Deep.DeepCutAuto
namespace Go.Proofs.Ytldacdpejncbnaa
open Go.RowKit
namespace Hg.LawH15U
open Knot (Turns NewRow)
open Tr (own_below own_slice)

theorem below_upon (L : List Ent) (q : ByteArray) : (below L q).length + (upon L q).length = L.length := by
  induction L with
  | nil => rfl
  | cons e L ih =>
    simp only [below, upon, List.filter_cons, List.length_cons] at ih ⊢
    by_cases c : cmp e.1 q < 0
    · rw [if_pos (by simpa using c), if_neg (by simp; omega), List.length_cons]; omega
    · rw [if_neg (by simp; omega), if_pos (by simp; omega), List.length_cons]; omega
/-- Those under a prefix come first. -/
theorem split_under {F : List Ent} {p : ByteArray} (h : Rises F) (hg : ∀ e ∈ F, 0 ≤ cmp e.1 p) : ∃ R, F = (F.filter fun e => begins p e.1) ++ R ∧ (∀ e ∈ (F.filter fun e => begins p e.1), begins p e.1 = true) ∧ ∀ e ∈ R, begins p e.1 = false := by
  have hw := while_filter h hg
  refine ⟨F.dropWhile fun e => begins p e.1, ?_, fun e he => (List.mem_filter.1 he).2, ?_⟩
  · rw [← hw, List.takeWhile_append_dropWhile]
  · have hsp : (F.takeWhile fun e => begins p e.1) ++ (F.dropWhile fun e => begins p e.1) = F := List.takeWhile_append_dropWhile
    have hf : ((F.takeWhile fun e => begins p e.1) ++ (F.dropWhile fun e => begins p e.1)).filter (fun e => begins p e.1) = F.filter fun e => begins p e.1 := by rw [hsp]
    rw [List.filter_append, hw, List.filter_filter] at hf
    have hl := congrArg List.length hf
    simp only [Bool.and_self, List.length_append] at hl
    have h0 : (F.dropWhile fun e => begins p e.1).filter (fun e => begins p e.1) = [] := List.eq_nil_of_length_eq_zero (by omega)
    intro e he
    have := List.filter_eq_nil_iff.1 h0 e he
    simpa using this
def num (j : Nat) : Option Int := some (j : Int)
set_option maxHeartbeats 8000000 in
set_option maxRecDepth 100000 in
theorem walk (l : List ByteArray) (v : Value) (q : ByteArray) (w : World) (hl : IsTx w v l) (_hq : q.size ≤ maxLen) :
    Calls Try.prog 6 #[v, .string q] w fun e x => e = .returned (.bool true) ∧ Below w.heap.size w x := by
  obtain ⟨vo, vcap, rfl, hlx⟩ := id hl
  have HL := Lib.hid hl
  have HA := Lib.hid (fun w => awake_any w)
  clear hl hlx
  by_cases hn : l.length ≤ 60
  · by_cases hq : q.size ≤ 100
    · go_enter Try.func6, Try.ntmps6
      go_wp2_with fail
      refine (new_al w).mono ?_
      rintro e x0 ⟨rfl, hA, hb0⟩
      obtain ⟨p, hp⟩ : ∃ p, p = w.heap.size := ⟨_, rfl⟩
      rw [← hp] at hA ⊢
      have HB0 := Lib.hid (And.intro hA (And.intro hb0 hp))
      clear hA hb0 hp
      go_wp2_with fail
      refine (HA.out x0).mono ?_
      rintro e x1 ⟨rfl, hb1⟩
      have hbb := HB0.out.2.1.trans (hb1.mono HB0.out.2.1.size)
      have HB1 := Lib.hid (And.intro (HB0.out.1.on hb1) (And.intro hbb HB0.out.2.2))
      clear hb1 hbb
      go_wp2_with fail
      go_loopw [33] (fun i wr => ∃ (j : Nat) (t : T), j ≤ l.length ∧ i = .int .i64 (j : Int) ∧ Hid (Al p p wr t ∧ t.ents = fillN l num j ∧ Below w.heap.size w wr)) (fun i _ => l.length - (intOf i).toNat)
      case atStart => exact ⟨0, .nil, Nat.zero_le _, rfl, HB1.out.1, rfl, HB1.out.2.1⟩
      case round =>
        obtain ⟨j, t, hj, rfl, HS⟩ := hrel
        by_cases hlt : j < l.length
        · obtain ⟨b, o, cap, he, hix, hc⟩ := (HL.out.on HS.out.2.2).at hlt
          obtain ⟨rfl, -, rfl⟩ := Value.slice.inj he
          have hnx := fillN_succ hlt (f := num) (x := (j : Int)) rfl
          obtain ⟨s, hs⟩ : ∃ s, s = l[j] := ⟨_, rfl⟩
          rw [← hs] at hc hnx
          have HNx := Lib.hid hnx
          clear hnx hs
          by_cases hsz : s.size ≤ 200
          · have hP := put_al HS.out.1 (by have := HS.out.2.2.size; have := HB1.out.2.2; omega) s (j : Int) (by unfold keyMax; omega) (by rw [HS.out.2.1]; have := fillN_len l num j; omega)
            have HP := Lib.hid hP
            clear hP
            go_wp2_with fail
            refine HP.out.mono ?_
            rintro e y ⟨rfl, t', h1, h2, h3⟩
            have HN := Lib.hid (And.intro h1 (And.intro (show t'.ents = fillN l num (j + 1) by rw [h2, HNx.out, HS.out.2.1]) (HS.out.2.2.trans (by rw [← HB1.out.2.2]; exact h3))))
            clear h1 h2 h3
            go_wp2_with fail
            go_roundw
            case rel => exact ⟨j + 1, t', by omega, by go_num, HN⟩
            case measure => simp [intOf]; omega
          · go_wp2_with fail
            go_ret
            exact ⟨rfl, HS.out.2.2⟩
        · have hjl : j = l.length := by omega
          have HJ := Lib.hid hjl
          clear hjl
          have hen := HS.out.2.1
          rw [HJ.out] at hen
          have hR := fillN_rises l num l.length
          have hlen := fillN_len l num l.length
          rw [← hen] at hR hlen
          have hbu := below_upon t.ents q
          have hfrom := fun z (hz : Below wr.heap.size wr z) => from_row (HS.out.1.on hz).h q 1073741824
          rw [List.take_of_length_le (by omega)] at hfrom
          have hunder := under_row HS.out.1.h q 1073741824
          have hle : ((upon t.ents q).filter fun e => begins q e.1).length ≤ (upon t.ents q).length := List.length_filter_le ..
          rw [List.take_of_length_le (by omega)] at hunder
          obtain ⟨R, hF, hU, hRn⟩ := split_under (rises_upon hR q) (upon_ge t.ents q)
          have hrank := fun z (hz : Below wr.heap.size wr z) => rank_row (HS.out.1.on hz).h q
          have hlrow := fun z (hz : Below wr.heap.size wr z) => len_row (HS.out.1.on hz).h
          have HRk := Lib.hid hrank
          have HLn := Lib.hid hlrow
          have HFr := Lib.hid hfrom
          have HUn := Lib.hid hunder
          clear hen hR hfrom hunder hrank hlrow
          rw [rank] at HRk
          generalize (below t.ents q).length = nb at *
          generalize t.ents.length = nt at *
          generalize upon t.ents q = F at *
          generalize (F.filter fun e => begins q e.1) = U at *
          obtain ⟨nF, hnF⟩ : ∃ n, n = F.length := ⟨_, rfl⟩
          obtain ⟨nU, hnU⟩ : ∃ n, n = U.length := ⟨_, rfl⟩
          rw [← hnF] at hle hbu
          rw [← hnU] at hle
          have HFU := Lib.hid (And.intro hF (And.intro hU (And.intro hRn (And.intro hnF hnU))))
          have HHS := Lib.hid HS.out.2.2
          have e1 : ((nb : Int) + (nF : Int) != (nt : Int)) = false := by rw [bne_eq_false_iff_eq]; omega
          have HLE := Lib.hid (And.intro hle hlen)
          clear hF hU hRn hnF hnU HS HL
          go_wp2_with fail
          refine HUn.out.mono ?_
          rintro e y1 ⟨uv, rfl, ho, hb⟩
          obtain ⟨ao, oc, rfl⟩ := own_slice ho
          have HY1 := Lib.hid (And.intro (show Ro tEn y1 _ _ from own_base ho (Nat.zero_le _)) hb)
          clear ho hb HUn
          rw [← HFU.out.2.2.2.2]
          go_wp2_with fail
          refine (HFr.out y1 HY1.out.2).mono ?_
          rintro e y2 ⟨fv, rfl, ho, hb⟩
          obtain ⟨bo, bc, rfl⟩ := own_slice ho
          have HY2 := Lib.hid (And.intro (show Ro tEn y2 _ _ from own_base ho (Nat.zero_le _)) (And.intro (HY1.out.1.on hb) (HY1.out.2.trans (hb.mono HY1.out.2.size))))
          clear ho hb HFr HY1
          rw [← HFU.out.2.2.2.1]
          go_wp2_with fail
          refine (HRk.out y2 HY2.out.2.2).mono ?_
          rintro e _ ⟨rfl, hx⟩
          rw [hx]
          clear hx
          go_wp2_with fail
          refine (HLn.out y2 HY2.out.2.2).mono ?_
          rintro e _ ⟨rfl, hx⟩
          rw [hx]
          clear hx
          go_wp2_with fail
          clear e1
          have HW0 := Lib.hid (show ∀ z, Below y2.heap.size y2 z → Below w.heap.size w z from fun z hz => HHS.out.trans ((HY2.out.2.2.trans (hz.mono HY2.out.2.2.size)).mono HHS.out.size))
          go_loopw [70] (fun i wr => ∃ (j : Nat), j ≤ nF ∧ i = .int .i64 (j : Int) ∧ Hid (Below y2.heap.size y2 wr)) (fun i _ => nF - (intOf i).toNat)
          case atStart => exact ⟨0, Nat.zero_le _, rfl, Lib.hid (Below.refl _ _)⟩
          case round =>
            obtain ⟨m, hm, rfl, HZ⟩ := hrel
            by_cases hlt : m < nF
            · have hlt' : m < F.length := by rw [← HFU.out.2.2.2.1]; exact hlt
              obtain ⟨g, cp, he, -, q1, q2⟩ := (HY2.out.1.on HZ.out).at hlt'
              obtain ⟨hg1, -, hg2⟩ := Value.slice.inj he
              subst hg1
              subst hg2
              have hi := idxE (g := g) (n := nF) (cap := bc) hlt
              have hun : begins q F[m].1 = decide (m < nU) ∧ ∀ h : m < U.length, U[m] = F[m] := by
                obtain ⟨hF, hU, hRn, -, hnU⟩ := HFU.out
                by_cases hmu : m < U.length
                · have e : F[m] = U[m] := by
                    have : (U ++ R)[m]'(by rw [← hF]; exact hlt') = U[m] := List.getElem_append_left hmu
                    rw [← this]
                    congr 1
                  refine ⟨?_, fun _ => e.symm⟩
                  rw [e, hU _ (List.getElem_mem hmu), decide_eq_true (by omega)]
                · refine ⟨?_, fun h => absurd h hmu⟩
                  have hm2 : m - U.length < R.length := by
                    have := congrArg List.length hF
                    rw [List.length_append] at this
                    omega
                  have e : F[m] = R[m - U.length] := by
                    have : (U ++ R)[m]'(by rw [← hF]; exact hlt') = R[m - U.length] := List.getElem_append_right (by omega)
                    rw [← this]
                    congr 1
                  rw [e, hRn _ (List.getElem_mem hm2), decide_eq_false (by omega)]
              obtain ⟨k, hk⟩ : ∃ s, s = F[m].1 := ⟨_, rfl⟩
              obtain ⟨a, ha⟩ : ∃ s, s = F[m].2 := ⟨_, rfl⟩
              have hFm : F[m] = (k, a) := by rw [hk, ha]
              rw [hFm] at hun
              rw [← hk] at q1
              rw [← ha] at q2
              clear hk ha hFm
              have hnew := heap_alloc_new wr (.cells #[.string k, .int .i64 a] tEn)
              have hba : Below wr.heap.size wr (wr.alloc (.cells #[.string k, .int .i64 a] tEn)) := (Below.refl _ _).alloc (Nat.le_refl _) _
              obtain ⟨W1, hW1⟩ : ∃ W1, W1 = wr.alloc (.cells #[.string k, .int .i64 a] tEn) := ⟨_, rfl⟩
              rw [← hW1] at hnew hba
              have hyw := HZ.out.trans (hba.mono HZ.out.size)
              have HW := Lib.hid hW1
              have c0 : W1.cell? ⟨wr.heap.size, 0, none⟩ = some (.string k) := by rw [Lib.cell_of_heap hnew]; rfl
              have c1 : W1.cell? ⟨wr.heap.size, 1, none⟩ = some (.int .i64 a) := by rw [Lib.cell_of_heap hnew]; rfl
              have HYW := Lib.hid hyw
              have heq := en_same k a
              have hbg := begins_eq (p := q) (k := k)
              have hbs := fun h => begins_short (p := q) (k := k) h
              rw [hun.1] at hbg hbs
              by_cases hmu : m < nU
              · have hmu' : m < U.length := by rw [← HFU.out.2.2.2.2]; exact hmu
                obtain ⟨g2, cp2, he2, -, u1, u2⟩ := (HY2.out.2.1.on hyw).at hmu'
                obtain ⟨hg1, -, hg2⟩ := Value.slice.inj he2
                subst hg1
                subst hg2
                have hUm := hun.2 hmu'
                rw [hUm] at u1 u2
                simp only at u1 u2
                have hi2 := idxE (g := g2) (n := nU) (cap := oc) hmu
                have hqk : q.size ≤ k.size := by
                  by_cases h : q.size ≤ k.size
                  · exact h
                  · have := hbs h
                    simp [hmu] at this
                rw [decide_eq_true hmu] at hbg
                clear hun hbs hUm hnew hba hyw hW1 HFU
                go_upto_region 18 with fail
                rw [← HW.out]
                clear HW q1 q2
                go_wp2_with fail
                go_quiet (fail)
                have HN := Lib.hid (below_drewN HYW.out nq)
                go_wp2_with fail
                go_roundw
                case rel => exact ⟨m + 1, by omega, by go_num, HN⟩
                case measure => simp [intOf]; omega
              · rw [decide_eq_false hmu] at hbg
                clear hun hbs hnew hba hyw hW1 HFU heq
                by_cases hqk : q.size ≤ k.size
                · go_upto_region 18 with fail
                  rw [← HW.out]
                  clear HW q1 q2
                  go_wp2_with fail
                  go_quiet (fail)
                  have HN := Lib.hid (below_drewN HYW.out nq)
                  go_wp2_with fail
                  go_roundw
                  case rel => exact ⟨m + 1, by omega, by go_num, HN⟩
                  case measure => simp [intOf]; omega
                · go_upto_region 18 with fail
                  rw [← HW.out]
                  clear HW q1 q2
                  go_wp2_with fail
                  go_quiet (fail)
                  have HN := Lib.hid (below_drewN HYW.out nq)
                  go_wp2_with fail
                  go_roundw
                  case rel => exact ⟨m + 1, by omega, by go_num, HN⟩
                  case measure => simp [intOf]; omega
            · go_wp2_with fail
              go_ret
              exact ⟨rfl, HW0.out _ HZ.out⟩
    · go_enter Try.func6, Try.ntmps6
      go_wp2_with fail
      refine (new_al w).mono ?_
      rintro e x0 ⟨rfl, -, hb0⟩
      have HB0 := Lib.hid hb0
      clear hb0
      go_wp2_with fail
      refine (HA.out x0).mono ?_
      rintro e x1 ⟨rfl, hb1⟩
      have HB1 := Lib.hid (HB0.out.trans (hb1.mono HB0.out.size))
      clear hb1
      go_wp2_with fail
      refine (HA.out x1).mono ?_
      rintro e x2 ⟨rfl, hb2⟩
      have HB2 := Lib.hid (HB1.out.trans (hb2.mono HB1.out.size))
      clear hb2
      go_wp2_with fail
      go_ret
      exact ⟨rfl, HB2.out⟩
  · go_enter Try.func6, Try.ntmps6
    go_wp2_with fail
    refine (new_al w).mono ?_
    rintro e x0 ⟨rfl, -, hb0⟩
    have HB0 := Lib.hid hb0
    clear hb0
    go_wp2_with fail
    refine (HA.out x0).mono ?_
    rintro e x1 ⟨rfl, hb1⟩
    have HB1 := Lib.hid (HB0.out.trans (hb1.mono HB0.out.size))
    clear hb1
    go_wp2_with fail
    refine (HA.out x1).mono ?_
    rintro e x2 ⟨rfl, hb2⟩
    have HB2 := Lib.hid (HB1.out.trans (hb2.mono HB1.out.size))
    clear hb2
    go_wp2_with fail
    go_ret
    exact ⟨rfl, HB2.out⟩
end Hg.LawH15U
end Go.Proofs.Ytldacdpejncbnaa
