/-
  Layer 15: the document's From, and Put.
-/
import Derived.Test.YtldacdpejncbnaaHgRefB
namespace Go.Proofs.Ytldacdpejncbnaa
open Go.RowKit
namespace Hg
open Knot (Turns NewRow)
open Tr (IsElem own_turn own_below own_slice own_open walk_rows)

/-- Which the document tells: those from a key on, under a prefix. -/
def sel (q p : ByteArray) (e : Ent) : Bool := decide (0 ≤ cmp e.1 q) && begins p e.1
theorem take_more {L : List Ent} {i : Nat} (hi : i < L.length) (f : Ent → Bool) (m : Nat) : ((L.take (i + 1)).filter f).take m = ((L.take i).filter f).take m ++ (if (((L.take i).filter f).take m).length < m ∧ f L[i] = true then [L[i]] else []) := by
  rw [List.take_succ_eq_append_getElem hi, List.filter_append, List.take_append, List.length_take]
  congr 1
  by_cases c : f L[i] = true
  · rw [List.filter_cons_of_pos c, List.filter_nil]
    by_cases h : ((L.take i).filter f).length < m
    · rw [if_pos ⟨by omega, c⟩]
      obtain ⟨d, hd⟩ : ∃ d, m - ((L.take i).filter f).length = d + 1 := ⟨m - ((L.take i).filter f).length - 1, by omega⟩
      rw [hd]
      simp
    · rw [if_neg (by omega), show m - ((L.take i).filter f).length = 0 by omega]
      rfl
  · rw [List.filter_cons_of_neg c, if_neg (by simp [c])]
    simp
theorem begins_short {p k : ByteArray} (h : ¬ p.size ≤ k.size) : begins p k = false := by
  cases hb : begins p k with
  | false => rfl
  | true =>
    have := (begins_iff.1 hb).length_le
    rw [← Lib.size_eq, ← Lib.size_eq] at this
    omega
theorem begins_eq {p k : ByteArray} : ((k.extract 0 p.size).toList == p.toList) = begins p k := by
  rw [ByteArray.toList_eq, ByteArray.toList_eq, Lib.extract_data, Bool.eq_iff_iff, beq_iff_eq, begins_iff, List.prefix_iff_eq_take, List.drop_zero, Nat.sub_zero, ← Lib.size_eq]
  exact ⟨fun h => h.symm, fun h => h.symm⟩
set_option maxHeartbeats 4000000 in
set_option maxRecDepth 100000 in
theorem dfrom_any {w : World} {v : Value} {L : List Ent} (h : Ro tDe w v L) (q p : ByteArray) (n : Int) (hL : Short L) (hq : q.size ≤ 4000000) (hl : L.length ≤ 100000) :
    Calls Try.prog 20 #[v, .string q, .string p, .int .i64 n] w fun e x => ∃ ov, e = .returned ov ∧ Mine w ov ((L.filter (sel q p)).take n.toNat) x := by
  obtain ⟨ao, cap, rfl⟩ := h.slice
  have HH := Lib.hid (And.intro h (And.intro hL hq))
  have HTE := Lib.hid elD
  obtain ⟨ti, tz, tb, hel, htb⟩ := HTE.out
  have HT := Lib.hid (And.intro hel htb)
  clear h hL hq hel htb HTE
  go_enter Try.func20, Try.ntmps20
  go_wp2_with fail
  go_loopw [14, 9] (fun i ov wr => ∃ (j : Nat), j ≤ L.length ∧ i = .int .i64 (j : Int) ∧ Hid (Mine w ov (((L.take j).filter (sel q p)).take n.toNat) wr)) (fun i _ _ => L.length - (intOf i).toNat)
  case atStart => exact ⟨0, Nat.zero_le _, rfl, Lib.hid ⟨by simpa [cellsE] using World.ownsRow_nil w w.heap.size tDe 2, Below.refl _ _⟩⟩
  case round =>
    obtain ⟨j, hj, rfl, HM⟩ := hrel
    obtain ⟨oo, oc, rfl⟩ := own_slice HM.out.own
    by_cases hlt : j < L.length
    · obtain ⟨g, cp, he, -, q1, q2⟩ := (HH.out.1.on HM.out.below).at hlt
      obtain ⟨rfl, -, rfl⟩ := Value.slice.inj he
      have hi := idxD (g := g) (n := L.length) (cap := cap) hlt
      have HD := Lib.hid (take_more hlt (sel q p) n.toNat)
      have hln : (((L.take j).filter (sel q p)).take n.toNat).length ≤ j := by
        have h1 := List.length_filter_le (sel q p) (L.take j)
        rw [List.length_take] at h1 ⊢
        omega
      have hkz := HH.out.2.1 _ (List.getElem_mem hlt)
      obtain ⟨key, hkey⟩ : ∃ s, s = L[j].1 := ⟨_, rfl⟩
      obtain ⟨num, hnum⟩ : ∃ s, s = L[j].2 := ⟨_, rfl⟩
      have hLj : L[j] = (key, num) := by rw [hkey, hnum]
      rw [hLj] at HD
      rw [← hkey] at q1 hkz
      rw [← hnum] at q2
      clear hkey hnum hLj
      generalize hN : ((L.take (j + 1)).filter (sel q p)).take n.toNat = N at *
      have HN := Lib.hid hN
      clear hN
      generalize ((L.take j).filter (sel q p)).take n.toNat = M at *
      obtain ⟨m, hm⟩ : ∃ m, m = M.length := ⟨_, rfl⟩
      rw [← hm] at hln HD ⊢
      have HMM := Lib.hid hm
      have hC := Ref.compare_any key q wr hkz HH.out.2.2
      change Calls _ _ _ _ fun e w' => e = .returned (.int .i64 (cmp key q)) ∧ Below wr.heap.size wr w' at hC
      obtain ⟨d, hd⟩ : ∃ d, d = cmp key q := ⟨_, rfl⟩
      rw [← hd] at hC
      have HC := Lib.hid hC
      have HDd := Lib.hid hd
      clear hm hC hd hkz
      by_cases c1 : (m : Int) < n
      · by_cases c2 : d < 0
        · have HR := Lib.hid (show N = M from by rw [HD.out, if_neg (by simp [sel, ← HDd.out]; omega), List.append_nil])
          go_wp2_with fail
          refine HC.out.mono ?_
          rintro e x ⟨rfl, hb⟩
          have HX := Lib.hid (HM.out.on hb)
          clear hb HM
          go_wp2_with fail
          go_roundw
          case rel => exact ⟨j + 1, by omega, by go_num, by rw [HN.out, HR.out, HMM.out]; exact HX⟩
          case measure => simp [intOf]; omega
        · by_cases c3 : p.size ≤ key.size
          · have hbg := begins_eq (p := p) (k := key)
            obtain ⟨bb, hbb⟩ : ∃ bb, bb = begins p key := ⟨_, rfl⟩
            rw [← hbb] at hbg
            cases bb with
            | false =>
              have HR := Lib.hid (show N = M from by rw [HD.out, if_neg (by simp [sel, ← hbb]), List.append_nil])
              clear hbb
              go_wp2_with fail
              refine HC.out.mono ?_
              rintro e x ⟨rfl, hb⟩
              have HX := Lib.hid (HM.out.on hb)
              clear hb HM
              go_wp2_with fail
              go_roundw
              case rel => exact ⟨j + 1, by omega, by go_num, by rw [HN.out, HR.out, HMM.out]; exact HX⟩
              case measure => simp [intOf]; omega
            | true =>
              have hnn : n.toNat = n.toNat := rfl
              have HR := Lib.hid (show N = M ++ [(key, num)] from by rw [HD.out, if_pos ⟨by omega, by simp [sel, ← hbb, ← HDd.out]; omega⟩])
              have hbs := one_dent key num
              have hglt : g < wr.heap.size := by
                obtain ⟨g', cp', he', hg', -⟩ := (HH.out.1.on HM.out.below).at hlt
                cases he'
                exact hg'
              clear hbb hnn
              go_wp2_with fail
              refine HC.out.mono ?_
              rintro e x ⟨rfl, hb⟩
              have hX := HM.out.on hb
              have q1' := (hb.cell (p := ⟨g, j * 2, none⟩) hglt).trans q1
              have q2' := (hb.cell (p := ⟨g, j * 2 + 1, none⟩) hglt).trans q2
              have hb1 : Below x.heap.size x (x.alloc (.cells #[.string key, .int .i64 num] tDe)) := (Below.refl _ _).alloc (Nat.le_refl _) _
              have hm1 := hX.on hb1
              rw [← HMM.out] at hm1
              have ho1 := hm1.own
              rw [← HMM.out] at ho1
              have hz1 : w.heap.size ≤ (x.alloc (.cells #[.string key, .int .i64 num] tDe)).heap.size := Nat.le_trans hX.below.size hb1.size
              have HO := Lib.hid (And.intro ho1 (And.intro hz1 hm1))
              clear hX hm1 ho1 hz1 hb1 q1 q2 hb hglt
              go_wp2_with (at_builtin; refine walk_rows HT.out.1 rfl _ _ rfl rfl rfl HO.out.1 HO.out.2.1 (m := 1) rfl (new_cells _ _ [.string key, .int .i64 num] rfl) (by intro u' hu'; simp at hu'; rcases hu' with rfl | rfl <;> rfl) (by omega) (Nat.le_trans (Nat.mul_le_mul_left _ HT.out.2) (by omega)) ?_)
              intro v' y ho hg hnr
              have hP := HO.out.2.2.push (key, num) (by rw [← HMM.out]; exact ho) hg
              rw [← HR.out] at hP
              have HP := Lib.hid hP
              clear hP ho hg hnr HO
              go_wp2_with fail
              go_roundw
              case rel => exact ⟨j + 1, by omega, by go_num, by rw [HN.out]; exact HP⟩
              case measure => simp [intOf]; omega
          · have HR := Lib.hid (show N = M from by rw [HD.out, if_neg (by simp [sel, begins_short c3]), List.append_nil])
            go_wp2_with fail
            refine HC.out.mono ?_
            rintro e x ⟨rfl, hb⟩
            have HX := Lib.hid (HM.out.on hb)
            clear hb HM
            go_wp2_with fail
            go_roundw
            case rel => exact ⟨j + 1, by omega, by go_num, by rw [HN.out, HR.out, HMM.out]; exact HX⟩
            case measure => simp [intOf]; omega
      · have HR := Lib.hid (show N = M from by rw [HD.out, if_neg (by omega), List.append_nil])
        go_wp2_with fail
        go_roundw
        case rel => exact ⟨j + 1, by omega, by go_num, by rw [HN.out, HR.out, HMM.out]; exact HM⟩
        case measure => simp [intOf]; omega
    · have hjl : j = L.length := by omega
      have HJ := Lib.hid hjl
      clear hjl
      go_wp2_with fail
      go_ret
      have hn := HM.out
      rw [HJ.out, List.take_length] at hn
      refine ⟨_, rfl, ?_⟩
      rw [HJ.out, List.take_length]
      exact hn
end Hg
end Go.Proofs.Ytldacdpejncbnaa
