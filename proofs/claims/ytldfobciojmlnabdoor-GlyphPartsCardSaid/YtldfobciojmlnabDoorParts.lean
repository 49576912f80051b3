/-
  GlyphParts, at every text and number: true. (The row and the card: in the card's text.)
-/
import Derived.Test.YtldfobciojmlnabDoorClip
import Derived.OpenShut
import Derived.Deep.RegionHeld3
namespace Go.Proofs.YtldfobciojmlnabDoor
open Go.RowKit
namespace LawParts

theorem toA (l : List UInt8) : (⟨l.toArray⟩ : ByteArray).data.toList = l := by simp
theorem sizeA (l : List UInt8) : (⟨l.toArray⟩ : ByteArray).size = l.length := by rw [Lib.size_eq, toA]

set_option maxHeartbeats 2000000 in
set_option maxRecDepth 100000 in
theorem walk (s : ByteArray) (n : Int) (w : World) (hs : s.size ≤ maxLen) (wn : (Lit.int .u8 n).wf = true) (hT : Num.Tab w) :
    Calls Tryd.prog 3 #[.string s, .int .u8 n] w fun e w' => e = .returned (.bool true) ∧ Below w.heap.size w w' := by
  unfold maxLen at hs
  have HA := Lib.hid (fun w hT => Ref.awake_any w hT)
  have HT := Lib.hid hT
  have hn0 := bounds_u8 wn
  obtain ⟨n0, n1⟩ := hn0
  obtain ⟨n, rfl⟩ := Int.eq_ofNat_of_zero_le n0
  clear hT wn
  by_cases hl : s.size ≤ 1000
  · have hv := fun w => Gl.valid_any s w (by omega)
    cases hr : Gly.runes s.data.toList with
    | none =>
      simp only [Gly.cnt, hr, Option.map_none, Option.isSome_none] at hv
      have HV := Lib.hid hv
      clear hv hr
      go_enter Tryd.func3, Tryd.ntmps3
      go_wp2_with fail
      refine (HA.out _ HT.out).mono ?_
      rintro e w1 ⟨rfl, b1⟩
      go_wp2_with (go_at_call 5; refine (HV.out _).mono ?_; rintro e w2 ⟨rfl, b2⟩)
      replace b2 := b1.trans (b2.mono b1.size)
      go_wp2_with fail
      refine (HA.out _ (HT.out.below b2)).mono ?_
      rintro e w3 ⟨rfl, b3⟩
      replace b3 := b2.trans (b3.mono b2.size)
      go_wp2
      go_ret
      exact ⟨rfl, b3⟩
    | some t =>
      have hc := fun w => Gl.count_any s w (by omega)
      have hk := fun w => Gl.clip_any s n (by omega) w (by omega)
      have hq := fun w hT => Gl.quote_any s w (by omega) hT
      have hp := Gly.pre_le n s.data.toList
      have hrt := Gly.runes_take n _ t hr
      have hrd := Gly.runes_drop n _ t hr
      have hsp := Gly.qb_split n _ t hr
      have htl := Gly.runes_len _ _ (Nat.le_refl _) t hr
      rw [← Lib.size_eq] at hp htl
      rw [hr] at hk
      simp only [Gly.cnt, hr, Option.map_some, Option.isSome_some, Gl.cntV, Gl.clipV, Nat.zero_add] at hv hc hk
      generalize hA : (⟨(s.data.toList.take (Gly.pre n s.data.toList)).toArray⟩ : ByteArray) = A at hk
      have hAd : A.data.toList = s.data.toList.take (Gly.pre n s.data.toList) := by rw [← hA]
      have hAs : A.size = Gly.pre n s.data.toList := by rw [Lib.size_eq, hAd, List.length_take, ← Lib.size_eq]; omega
      obtain ⟨B, hB⟩ : ∃ B, B = s.extract A.size s.size := ⟨_, rfl⟩
      have hBd : B.data.toList = s.data.toList.drop (Gly.pre n s.data.toList) := by rw [hB, Gl.extract_list, hAs]
      have hBs : B.size = s.size - A.size := by rw [Lib.size_eq, hBd, List.length_drop, ← Lib.size_eq, hAs]
      have hca := fun w => Gl.count_any A w (by omega)
      have hcb := fun w => Gl.count_any B w (by omega)
      have hqa := fun w hT => Gl.quote_any A w (by omega) hT
      have hqb := fun w hT => Gl.quote_any B w (by omega) hT
      rw [hAd] at hca hqa
      rw [hBd] at hcb hqb
      simp only [Gly.cnt, hrt, hrd, Option.map_some, Gl.cntV, Nat.zero_add, List.length_take, List.length_drop] at hca hcb
      have lq := Gly.quote_len s.data.toList
      have la := Gly.quote_len (s.data.toList.take (Gly.pre n s.data.toList))
      have lb := Gly.quote_len (s.data.toList.drop (Gly.pre n s.data.toList))
      rw [← hAd, ← Lib.size_eq, hAd] at la
      rw [← hBd, ← Lib.size_eq, hBd] at lb
      have ka : 2 ≤ (Gly.quote (s.data.toList.take (Gly.pre n s.data.toList))).length := by simp [Gly.quote]
      have kb : 2 ≤ (Gly.quote (s.data.toList.drop (Gly.pre n s.data.toList))).length := by simp [Gly.quote]
      have hjoin : (Gly.quote (s.data.toList.take (Gly.pre n s.data.toList))).take ((Gly.quote (s.data.toList.take (Gly.pre n s.data.toList))).length - 1) ++ (Gly.quote (s.data.toList.drop (Gly.pre n s.data.toList))).drop 1 = Gly.quote s.data.toList := by
        have e1 : ∀ x : List UInt8, (Gly.quote x).take ((Gly.quote x).length - 1) = [34] ++ Gly.qb x := fun x => by
          have : (Gly.quote x).length - 1 = ([34] ++ Gly.qb x).length := by simp [Gly.quote]
          rw [this, Gly.quote]
          exact List.take_left
        have e2 : ∀ x : List UInt8, (Gly.quote x).drop 1 = Gly.qb x ++ [34] := fun x => by simp [Gly.quote]
        rw [e1, e2, Gly.quote, ← hsp]
        simp
      generalize Gly.quote (s.data.toList.take (Gly.pre n s.data.toList)) = qA at *
      generalize Gly.quote (s.data.toList.drop (Gly.pre n s.data.toList)) = qB at *
      generalize Gly.quote s.data.toList = qS at *
      have hba : B.size + A.size = s.size := by omega
      obtain ⟨m1, hm1⟩ : ∃ m1, m1 = min n t.length := ⟨_, rfl⟩
      obtain ⟨m2, hm2⟩ : ∃ m2, m2 = t.length - n := ⟨_, rfl⟩
      have hmm : ((m1 : Int) + (m2 : Int) == (t.length : Int)) = true := by rw [beq_iff_eq]; omega
      have hm3 : m1 + m2 ≤ t.length := by omega
      rw [← hm1] at hca
      rw [← hm2] at hcb
      obtain ⟨P, hP⟩ : ∃ P : ByteArray, P = ⟨qA.toArray⟩ := ⟨_, rfl⟩
      obtain ⟨Q, hQ⟩ : ∃ Q : ByteArray, Q = ⟨qB.toArray⟩ := ⟨_, rfl⟩
      obtain ⟨R, hR⟩ : ∃ R : ByteArray, R = ⟨qS.toArray⟩ := ⟨_, rfl⟩
      have hPs : P.size = qA.length := by rw [hP, sizeA]
      have hQs : Q.size = qB.length := by rw [hQ, sizeA]
      rw [← hP] at hqa
      rw [← hQ] at hqb
      rw [← hR] at hq
      have hx : P.extract 0 (P.size - 1) ++ Q.extract 1 Q.size = R := by
        apply ByteArray.ext
        apply Array.toList_inj.1
        rw [ByteArray.data_append, Array.toList_append, Lib.extract_data, Lib.extract_data, hPs, hQs, hP, hQ, hR, toA, toA, toA, ← hjoin, List.drop_zero, Nat.sub_zero]
        congr 1
        exact List.take_of_length_le (by rw [List.length_drop]; exact Nat.le_refl _)
      have p1 : 2 ≤ P.size := by omega
      have p2 : P.size ≤ 10002 := by omega
      have p3 : 2 ≤ Q.size := by omega
      have p4 : Q.size ≤ 10002 := by omega
      have HV := Lib.hid hv
      have HC := Lib.hid hc
      have HK := Lib.hid hk
      have HQ := Lib.hid hq
      have HCA := Lib.hid hca
      have HCB := Lib.hid hcb
      have HQA := Lib.hid hqa
      have HQB := Lib.hid hqb
      have HX := Lib.hid hx
      have HB := Lib.hid hB
      have hAle : A.size ≤ s.size := by omega
      clear hv hc hk hq hca hcb hqa hqb hjoin hA hAd hAs hB hBd hBs hp hrt hrd hsp hr hm1 hm2 hP hQ hR hPs hQs hx lq la lb ka kb
      go_enter Tryd.func3, Tryd.ntmps3
      go_wp2_with fail
      refine (HA.out _ HT.out).mono ?_
      rintro e w1 ⟨rfl, b1⟩
      go_wp2_with (go_at_call 5; refine (HV.out _).mono ?_; rintro e w2 ⟨rfl, b2⟩)
      replace b2 := b1.trans (b2.mono b1.size)
      go_wp2_with (go_at_call 6; refine (HC.out _).mono ?_; rintro e w3 ⟨rfl, b3⟩)
      replace b3 := b2.trans (b3.mono b2.size)
      go_wp2_with (go_at_call 7; refine (HK.out _).mono ?_; rintro e w4 ⟨rfl, b4⟩)
      replace b4 := b3.trans (b4.mono b3.size)
      go_wp2_with fail
      refine (HCA.out _).mono ?_
      rintro e w5 ⟨rfl, b5⟩
      replace b5 := b4.trans (b5.mono b4.size)
      go_wp2_with fail
      rw [← HB.out]
      refine (HCB.out _).mono ?_
      rintro e w6 ⟨rfl, b6⟩
      replace b6 := b5.trans (b6.mono b5.size)
      go_wp2_with fail
      refine (HQA.out _ (HT.out.below b6)).mono ?_
      rintro e w7 ⟨rfl, b7⟩
      replace b7 := b6.trans (b7.mono b6.size)
      go_wp2_with fail
      refine (HQB.out _ (HT.out.below b7)).mono ?_
      rintro e w8 ⟨rfl, b8⟩
      replace b8 := b7.trans (b8.mono b7.size)
      go_wp2_with fail
      have hw1 : IntKind.i64.wrap ((m1 : Int) + (m2 : Int)) = (m1 : Int) + (m2 : Int) := by rw [IntKind.wrap_i64]; omega
      have hw2 : IntKind.i64.wrap ((P.size : Int) - 1) = (P.size : Int) - 1 := by rw [IntKind.wrap_i64]; omega
      obtain ⟨P1, hP1⟩ : ∃ P1, P1 = P.extract 0 (P.size - 1) := ⟨_, rfl⟩
      obtain ⟨Q1, hQ1⟩ : ∃ Q1, Q1 = Q.extract 1 Q.size := ⟨_, rfl⟩
      have hs1 : ∀ W, (Instr.slice 9 (.string P) none (some (.int .i64 ((P.size : Int) - 1))) none).run Tryd.prog W = .ok (.string P1) W := fun W => by
        rw [hP1]
        have : ((P.size : Int) - 1).toNat = P.size - 1 := by omega
        go_simp
        intro h
        exact absurd (h (by omega)) (by omega)
      have hs2 : ∀ W, (Instr.slice 9 (.string Q) (some (.int .i64 1)) none none).run Tryd.prog W = .ok (.string Q1) W := fun W => by
        rw [hQ1]
        go_simp
        intro h
        omega
      have hz : P1.size + Q1.size ≤ 9223372036854775807 := by rw [hP1, hQ1, ByteArray.size_extract, ByteArray.size_extract]; omega
      have hpq : P1 ++ Q1 = R := by rw [hP1, hQ1, HX.out]
      have hs3 : ∀ W, (Op.stringOp .add P1 Q1).run Tryd.prog W = .ok (.string R) W := fun W => by rw [run_string_add_sum W P1 Q1 hz, hpq]
      clear hP1 hQ1 hpq
      go_region_held3 (fun w' => True) (exact trivial) (first | (go_at_call 8; refine (HQ.out _ ?_).mono ?_; (exact HT.out.below b8.drew); rintro e w9 ⟨rfl, b9⟩))
      go_wp2
      go_ret
      exact ⟨rfl, b8.drew.trans (b9.mono b8.size)⟩
  · go_enter Tryd.func3, Tryd.ntmps3
    go_wp2_with fail
    refine (HA.out _ HT.out).mono ?_
    rintro e w1 ⟨rfl, b1⟩
    go_wp2_with fail
    refine (HA.out _ (HT.out.below b1)).mono ?_
    rintro e w2 ⟨rfl, b2⟩
    replace b2 := b1.trans (b2.mono b1.size)
    go_wp2
    go_ret
    exact ⟨rfl, b2⟩
end LawParts
end Go.Proofs.YtldfobciojmlnabDoor
