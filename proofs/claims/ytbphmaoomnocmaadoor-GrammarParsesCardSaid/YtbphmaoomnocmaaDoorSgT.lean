/-
  Layer 6 (sigil): the document's Lex, what it does with the runes at a place: its switch, where it is a word.
-/
import Derived.Test.YtbphmaoomnocmaaDoorSgS
import Derived.Deep.DeepCutAuto
import Derived.Deep.CutBlock
namespace Go.Proofs.YtbphmaoomnocmaaDoor
open Go.RowKit
namespace Sg
open Tr (IsElem own_below own_slice own_open wp_rows walk_rows)


set_option maxHeartbeats 8000000 in
set_option maxRecDepth 1000000 in
theorem sw_word (u0 u1 u2 u3 u4 u5 u7 u8 u14 u15 u16 u17 u18 u19 u20 u21 u22 u23 u24 u25 u26 u27 u28 u29 u30 u31 u32 u33 u34 u35 u36 u37 u38 u39 u40 u41 u42 u43 u44 u45 u46 u47 u48 u49 u50 u51 u52 u53 u54 u55 u56 u57 u58 u59 u60 u61 u62 u63 u64 u65 u66 u67 u68 u69 u70 u71 u72 u73 u74 u75 u76 u77 u78 u79 u80 u81 u82 u83 u84 u85 u86 u87 u88 u89 u90 u91 u92 u93 u94 u95 u96 u97 u98 u99 u100 u101 u102 u103 u104 u105 u106 u107 u108 u109 u110 u111 u112 u113 u114 u115 u116 u117 u118 u119 u120 u121 u122 u123 u124 u125 u126 u127 u128 u129 u130 u131 u132 u133 u134 u135 u136 u137 u138 u139 u140 u141 u142 u143 u144 u145 u146 u147 u148 u149 u150 u151 u152 u153 u154 u155 u156 u157 u158 u159 u160 u161 u162 u163 u164 u165 u166 u167 u168 u169 u170 u171 u172 u173 u174 u175 u176 u177 u178 u179 u180 u181 u182 u183 u184 u185 u186 u187 : Value) (Q : Exit → Act → World → Prop) (q : List Nat) (w W3 wc : World) (g B R cap a r n j : Nat) (t : List Nat) (z : Int) (p : Nat × Nat) (acc : List Tok) (vo : Option Addr) (vc : Nat)
    (hz : z = (a : Int) + (j : Int)) (hlen : q.length ≤ 3000) (hcap : q.length ≤ cap) (hlt : a < q.length) (hjle : a + j ≤ q.length) (hmx : r ≤ 1114111)
    (HL : Hid (¬3000 < q.length)) (HRR : Hid (q[a] = r)) (HD : Hid (q.drop a = r :: t))
    (HNB : Hid (blank r = false)) (HD1 : Hid (¬ (r = 47 ∧ n = 47))) (HI : Hid (Inv q q (1, 1) a acc)) (HP : Hid (p = behinds (1, 1) (q.take a)))
    (M1 : Hid (RM w g B q (.slice vo acc.length vc) acc wc)) (HM3 : Hid (RM w g B q (.slice vo acc.length vc) acc W3 ∧ TB R 1 ⟨#[]⟩ p W3 ∧ Below R wc W3)) (hwR : w.heap.size ≤ R)
    (e0 : W3.cell? ⟨g, a, none⟩ = some (.int .i64 (r : Nat))) (hle : letter r = true) (hj1 : 1 ≤ j) (hjr : j = run inWord (q.drop a))
    (hret : ∀ a' w', bodyPost Tryd.prog Tryd.f21 (RLexOut (ans (some q)) w) .ret a' w' → Q .ret a' w')
    (hnorm : ∀ (m : Nat) (k : Int) (wx : World) (v99 v100 v101 v102 v103 v104 v105 v106 v107 v108 v109 v110 v111 v112 v113 v114 v115 v116 v117 v118 v119 v120 v121 v122 v123 v124 v125 v126 v127 v128 v129 v130 v131 v132 v133 v134 v135 v136 v137 v138 v139 v140 v141 v142 v143 v144 v145 v146 v147 v148 v149 v150 v151 v152 v153 v154 v155 v156 v157 v158 v159 v160 v161 v162 v163 v164 v165 v166 v167 v168 v169 v170 v171 v172 : Value), Hid (piece (q.drop a) = (k, m) ∧ k ≠ 0 ∧ k ≠ -1 ∧ Below R wc wx ∧ TB R k (txt ((q.drop a).take m)) p wx) → Q .normal ⟨List.toArray (u0 :: u1 :: u2 :: u3 :: u4 :: u5 :: Value.slice (some ⟨g, 0, none⟩) q.length cap :: u7 :: u8 :: Value.int .i64 (a : Nat) :: Value.int .i64 (p.1 : Nat) :: Value.int .i64 (p.2 : Nat) :: Value.int .i64 ((a : Int) + (m : Int)) :: Value.pointer (some ⟨R, 0, none⟩) :: u14 :: u15 :: u16 :: u17 :: u18 :: u19 :: u20 :: u21 :: u22 :: u23 :: u24 :: u25 :: u26 :: u27 :: u28 :: u29 :: u30 :: u31 :: u32 :: u33 :: u34 :: u35 :: u36 :: u37 :: u38 :: u39 :: u40 :: u41 :: u42 :: u43 :: u44 :: u45 :: u46 :: u47 :: u48 :: u49 :: u50 :: u51 :: u52 :: u53 :: u54 :: u55 :: u56 :: u57 :: u58 :: u59 :: u60 :: u61 :: u62 :: u63 :: u64 :: u65 :: u66 :: u67 :: u68 :: u69 :: u70 :: u71 :: u72 :: u73 :: u74 :: u75 :: u76 :: u77 :: u78 :: u79 :: u80 :: u81 :: u82 :: u83 :: u84 :: u85 :: u86 :: u87 :: u88 :: u89 :: u90 :: u91 :: u92 :: u93 :: u94 :: u95 :: u96 :: u97 :: u98 :: v99 :: v100 :: v101 :: v102 :: v103 :: v104 :: v105 :: v106 :: v107 :: v108 :: v109 :: v110 :: v111 :: v112 :: v113 :: v114 :: v115 :: v116 :: v117 :: v118 :: v119 :: v120 :: v121 :: v122 :: v123 :: v124 :: v125 :: v126 :: v127 :: v128 :: v129 :: v130 :: v131 :: v132 :: v133 :: v134 :: v135 :: v136 :: v137 :: v138 :: v139 :: v140 :: v141 :: v142 :: v143 :: v144 :: v145 :: v146 :: v147 :: v148 :: v149 :: v150 :: v151 :: v152 :: v153 :: v154 :: v155 :: v156 :: v157 :: v158 :: v159 :: v160 :: v161 :: v162 :: v163 :: v164 :: v165 :: v166 :: v167 :: v168 :: v169 :: v170 :: v171 :: v172 :: u173 :: u174 :: u175 :: u176 :: u177 :: u178 :: u179 :: u180 :: u181 :: u182 :: u183 :: u184 :: u185 :: u186 :: u187 :: []), []⟩ wx) :
    Code.wp Tryd.prog blk Q ⟨List.toArray (u0 :: u1 :: u2 :: u3 :: u4 :: u5 :: Value.slice (some ⟨g, 0, none⟩) q.length cap :: u7 :: u8 :: Value.int .i64 (a : Nat) :: Value.int .i64 (p.1 : Nat) :: Value.int .i64 (p.2 : Nat) :: Value.int .i64 z :: Value.pointer (some ⟨R, 0, none⟩) :: u14 :: u15 :: u16 :: u17 :: u18 :: u19 :: u20 :: u21 :: u22 :: u23 :: u24 :: u25 :: u26 :: u27 :: u28 :: u29 :: u30 :: u31 :: u32 :: u33 :: u34 :: u35 :: u36 :: u37 :: u38 :: u39 :: u40 :: u41 :: u42 :: u43 :: u44 :: u45 :: u46 :: u47 :: u48 :: u49 :: u50 :: u51 :: u52 :: u53 :: u54 :: u55 :: u56 :: u57 :: u58 :: u59 :: u60 :: u61 :: u62 :: u63 :: u64 :: u65 :: u66 :: u67 :: u68 :: u69 :: u70 :: u71 :: u72 :: u73 :: u74 :: u75 :: u76 :: u77 :: u78 :: u79 :: u80 :: u81 :: u82 :: u83 :: u84 :: u85 :: u86 :: u87 :: u88 :: u89 :: u90 :: u91 :: u92 :: u93 :: u94 :: u95 :: u96 :: u97 :: u98 :: u99 :: u100 :: u101 :: u102 :: u103 :: u104 :: u105 :: u106 :: u107 :: u108 :: u109 :: u110 :: u111 :: u112 :: u113 :: u114 :: u115 :: u116 :: u117 :: u118 :: u119 :: u120 :: u121 :: u122 :: u123 :: u124 :: u125 :: u126 :: u127 :: u128 :: u129 :: u130 :: u131 :: u132 :: u133 :: u134 :: u135 :: u136 :: u137 :: u138 :: u139 :: u140 :: u141 :: u142 :: u143 :: u144 :: u145 :: u146 :: u147 :: u148 :: u149 :: u150 :: u151 :: u152 :: u153 :: u154 :: u155 :: u156 :: u157 :: u158 :: u159 :: u160 :: u161 :: u162 :: u163 :: u164 :: u165 :: u166 :: u167 :: u168 :: u169 :: u170 :: u171 :: u172 :: u173 :: u174 :: u175 :: u176 :: u177 :: u178 :: u179 :: u180 :: u181 :: u182 :: u183 :: u184 :: u185 :: u186 :: u187 :: []), []⟩ W3 := by
  conv => arg 2; whnf
  subst hz
  have HRT := Lib.hid hret
  have HNM := Lib.hid hnorm
  clear hret hnorm
  have hgt : decide ((a : Int) < (a : Int) + (j : Int)) = true := by simp; omega
  have hjl : a + j ≤ q.length := hjle
  have hsub := fun W => sub_run (g := g) (cap := cap) (n := q.length) (a := a) (j := j) (by omega) (by omega) W
  have HTX := Lib.hid (sub_text (cap := cap) HM3.out.1.isl hjl (by omega) (by
    intro x hx; rw [hjr] at hx; exact inWord_low (run_all x hx)))
  have hsz : (txt ((q.drop a).take j)).size = j := by rw [txt_size, List.length_take, List.length_drop]; omega
  have hkk : kindB (txt ((q.drop a).take j)) = kindOf ((q.drop a).take j) := kindB_low (txt_list _) (by
    intro x hx; rw [hjr] at hx; exact inWord_low (run_all x hx))
  have hpc : piece (q.drop a) = word (q.drop a) := by
    rw [HD.out]
    rw [HD.out] at hjr
    rcases piece_cases r t with ⟨h, _⟩ | ⟨_, h, _⟩ | ⟨_, _, _, _, h, e⟩ | ⟨_, _, _, _, h, e⟩ | ⟨_, h, _⟩ | ⟨_, h, _⟩ | ⟨_, h, _⟩
    · rw [HNB.out] at h; cases h
    · subst h; cases hle
    · rw [e, word, if_neg (by omega)]
    · rw [e, word, if_pos (by omega)]
    · rw [hle] at h; cases h
    · rw [hle] at h; cases h
    · rw [hle] at h; cases h
  rw [word, ← hjr, ← hkk] at hpc
  have hkp := kindOf_pos ((q.drop a).take j)
  rw [← hkk] at hkp
  have hkc := kindB_cases (txt ((q.drop a).take j))
  generalize htt : txt ((q.drop a).take j) = tx at *
  have HTT := Lib.hid htt
  have HPC := Lib.hid hpc
  have HKC := Lib.hid hkc
  clear htt hkk hpc hkc hjr
  by_cases h16 : 16 < j
  · have hA := HPC.out
    rw [if_pos h16] at hA
    have hA2 := adv_bad HI.out (by rw [HD.out]; simp) (by rw [hA])
    have HA := Lib.hid (show ans (some q) = (10, p, []) from by rw [ans_bad HL.out (by rw [hA2]), hA2, HP.out])
    clear hA hA2 hkp
    go_wp2_with (go_at_call 47; refine HTX.out.mono ?_; rintro e W4 ⟨rfl, b4⟩; have T4 := HM3.out.2.1.on b4; obtain ⟨f0, f1⟩ := T4.free; obtain ⟨x0, x1, x2, x3⟩ := T4.cells; obtain ⟨y0, y1, y2, y3⟩ := (T4.set1 tx).cells; have B4 := Lib.hid (show Below R wc W4 from HM3.out.2.2.trans (b4.mono (Nat.le_of_lt HM3.out.2.1.lt))); have T5 := Lib.hid T4; clear b4 T4)
    refine HRT.out _ _ (bodyPost_ret (v := .tuple #[.slice none 0 0, .int .i64 (p.1 : Nat), .int .i64 (p.2 : Nat), .int .i64 10]) (by simp [results, Tryd.results21, go_sem]) rfl ⟨.slice none 0 0, by rw [HA.out], by rw [HA.out]; exact World.ownsRow_nil _ _ _ _, ?_⟩)
    exact M1.out.below.trans ((B4.out.setCell (by simp) _).mono hwR)
  · have hA := HPC.out
    rw [if_neg h16] at hA
    have hA0 : kindB tx ≠ 0 ∧ kindB tx ≠ -1 := by omega
    have HA := Lib.hid (And.intro hA hA0)
    clear hA hA0 hkp HPC
    rcases HKC.out with ⟨k1, k2, k3, hk⟩ | ⟨k1, k2, k3, hk⟩ | ⟨k1, k2, k3, hk⟩ | ⟨k1, k2, k3, hk⟩
    · have HK := Lib.hid hk
      clear hk HKC
      go_wp2_with (go_at_call 47; refine HTX.out.mono ?_; rintro e W4 ⟨rfl, b4⟩; have T4 := HM3.out.2.1.on b4; obtain ⟨f0, f1⟩ := T4.free; obtain ⟨x0, x1, x2, x3⟩ := T4.cells; obtain ⟨y0, y1, y2, y3⟩ := (T4.set1 tx).cells; have B4 := Lib.hid (show Below R wc W4 from HM3.out.2.2.trans (b4.mono (Nat.le_of_lt HM3.out.2.1.lt))); have T5 := Lib.hid T4; obtain ⟨z0, z1, z2, z3⟩ := ((T4.set1 tx).set0 2).cells; clear b4 T4)
      exact HNM.out j 2 _ _ _ _ _ _ _ _ _ _ _ _ _ _ _ _ _ _ _ _ _ _ _ _ _ _ _ _ _ _ _ _ _ _ _ _ _ _ _ _ _ _ _ _ _ _ _ _ _ _ _ _ _ _ _ _ _ _ _ _ _ _ _ _ _ _ _ _ _ _ _ _ _ _ _ (Lib.hid ⟨by rw [HA.out.1, HK.out], by decide, by decide, (B4.out.setCell (by simp) _).setCell (by simp) _, by rw [HTT.out]; exact (T5.out.set1 tx).set0 2⟩)
    · have HK := Lib.hid hk
      clear hk HKC
      go_wp2_with (go_at_call 47; refine HTX.out.mono ?_; rintro e W4 ⟨rfl, b4⟩; have T4 := HM3.out.2.1.on b4; obtain ⟨f0, f1⟩ := T4.free; obtain ⟨x0, x1, x2, x3⟩ := T4.cells; obtain ⟨y0, y1, y2, y3⟩ := (T4.set1 tx).cells; have B4 := Lib.hid (show Below R wc W4 from HM3.out.2.2.trans (b4.mono (Nat.le_of_lt HM3.out.2.1.lt))); have T5 := Lib.hid T4; obtain ⟨z0, z1, z2, z3⟩ := ((T4.set1 tx).set0 3).cells; clear b4 T4)
      exact HNM.out j 3 _ _ _ _ _ _ _ _ _ _ _ _ _ _ _ _ _ _ _ _ _ _ _ _ _ _ _ _ _ _ _ _ _ _ _ _ _ _ _ _ _ _ _ _ _ _ _ _ _ _ _ _ _ _ _ _ _ _ _ _ _ _ _ _ _ _ _ _ _ _ _ _ _ _ _ (Lib.hid ⟨by rw [HA.out.1, HK.out], by decide, by decide, (B4.out.setCell (by simp) _).setCell (by simp) _, by rw [HTT.out]; exact (T5.out.set1 tx).set0 3⟩)
    · have HK := Lib.hid hk
      clear hk HKC
      go_wp2_with (go_at_call 47; refine HTX.out.mono ?_; rintro e W4 ⟨rfl, b4⟩; have T4 := HM3.out.2.1.on b4; obtain ⟨f0, f1⟩ := T4.free; obtain ⟨x0, x1, x2, x3⟩ := T4.cells; obtain ⟨y0, y1, y2, y3⟩ := (T4.set1 tx).cells; have B4 := Lib.hid (show Below R wc W4 from HM3.out.2.2.trans (b4.mono (Nat.le_of_lt HM3.out.2.1.lt))); have T5 := Lib.hid T4; obtain ⟨z0, z1, z2, z3⟩ := ((T4.set1 tx).set0 4).cells; clear b4 T4)
      exact HNM.out j 4 _ _ _ _ _ _ _ _ _ _ _ _ _ _ _ _ _ _ _ _ _ _ _ _ _ _ _ _ _ _ _ _ _ _ _ _ _ _ _ _ _ _ _ _ _ _ _ _ _ _ _ _ _ _ _ _ _ _ _ _ _ _ _ _ _ _ _ _ _ _ _ _ _ _ _ (Lib.hid ⟨by rw [HA.out.1, HK.out], by decide, by decide, (B4.out.setCell (by simp) _).setCell (by simp) _, by rw [HTT.out]; exact (T5.out.set1 tx).set0 4⟩)
    · have HK := Lib.hid hk
      clear hk HKC
      go_wp2_with (go_at_call 47; refine HTX.out.mono ?_; rintro e W4 ⟨rfl, b4⟩; have T4 := HM3.out.2.1.on b4; obtain ⟨f0, f1⟩ := T4.free; obtain ⟨x0, x1, x2, x3⟩ := T4.cells; obtain ⟨y0, y1, y2, y3⟩ := (T4.set1 tx).cells; have B4 := Lib.hid (show Below R wc W4 from HM3.out.2.2.trans (b4.mono (Nat.le_of_lt HM3.out.2.1.lt))); have T5 := Lib.hid T4; clear b4 T4)
      exact HNM.out j 1 _ _ _ _ _ _ _ _ _ _ _ _ _ _ _ _ _ _ _ _ _ _ _ _ _ _ _ _ _ _ _ _ _ _ _ _ _ _ _ _ _ _ _ _ _ _ _ _ _ _ _ _ _ _ _ _ _ _ _ _ _ _ _ _ _ _ _ _ _ _ _ _ _ _ _ (Lib.hid ⟨by rw [HA.out.1, HK.out], by decide, by decide, B4.out.setCell (by simp) _, by rw [HTT.out]; exact T5.out.set1 tx⟩)
end Sg
end Go.Proofs.YtbphmaoomnocmaaDoor
