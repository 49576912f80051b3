/-
  Layer 6 (sigil): the document's Lex, what it does with the runes at a place: its switch, in two theorems.
-/
import Derived.Test.YtbphmaoomnocmaaDoorSgK
import Derived.Deep.DeepCutAuto
import Derived.Deep.CutBlock
namespace Go.Proofs.YtbphmaoomnocmaaDoor
open Go.RowKit
namespace Sg
open Tr (IsElem own_below own_slice own_open wp_rows walk_rows)

/-- A block of a function's text. -/
def findBlock (n : Nat) : Code → Option Code
  | .block m c => if m = n then some (.block m c) else findBlock n c
  | .seq a b => match findBlock n a with
    | some c => some c
    | none => findBlock n b
  | .loop c => findBlock n c
  | .scope c => findBlock n c
  | .cond _ a b => match findBlock n a with
    | some c => some c
    | none => findBlock n b
  | _ => none
noncomputable def blk : Code := ((Tryd.f21.body.bind (findBlock 6)).getD .skip)

set_option maxHeartbeats 8000000 in
set_option maxRecDepth 1000000 in
theorem sw_other (u0 u1 u2 u3 u4 u5 u7 u8 u14 u15 u16 u17 u18 u19 u20 u21 u22 u23 u24 u25 u26 u27 u28 u29 u30 u31 u32 u33 u34 u35 u36 u37 u38 u39 u40 u41 u42 u43 u44 u45 u46 u47 u48 u49 u50 u51 u52 u53 u54 u55 u56 u57 u58 u59 u60 u61 u62 u63 u64 u65 u66 u67 u68 u69 u70 u71 u72 u73 u74 u75 u76 u77 u78 u79 u80 u81 u82 u83 u84 u85 u86 u87 u88 u89 u90 u91 u92 u93 u94 u95 u96 u97 u98 u99 u100 u101 u102 u103 u104 u105 u106 u107 u108 u109 u110 u111 u112 u113 u114 u115 u116 u117 u118 u119 u120 u121 u122 u123 u124 u125 u126 u127 u128 u129 u130 u131 u132 u133 u134 u135 u136 u137 u138 u139 u140 u141 u142 u143 u144 u145 u146 u147 u148 u149 u150 u151 u152 u153 u154 u155 u156 u157 u158 u159 u160 u161 u162 u163 u164 u165 u166 u167 u168 u169 u170 u171 u172 u173 u174 u175 u176 u177 u178 u179 u180 u181 u182 u183 u184 u185 u186 u187 : Value) (Q : Exit → Act → World → Prop) (q : List Nat) (w W3 wc : World) (g B R cap a r n j : Nat) (t : List Nat) (z : Int) (p : Nat × Nat) (acc : List Tok) (vo : Option Addr) (vc : Nat)
    (hz : z = (a : Int) + (j : Int)) (hlen : q.length ≤ 3000) (hcap : q.length ≤ cap) (hlt : a < q.length) (hjle : a + j ≤ q.length) (hmx : r ≤ 1114111)
    (HL : Hid (¬3000 < q.length)) (HRR : Hid (q[a] = r)) (HD : Hid (q.drop a = r :: t)) (HT : Hid ((∀ h : a + 1 < q.length, n = q[a + 1]) ∧ (¬ a + 1 < q.length → t = []))) (hnil : ¬ a + 1 < q.length → n = 0) (HN : Hid (t.headD 0 = n))
    (HNB : Hid (blank r = false)) (HD1 : Hid (¬ (r = 47 ∧ n = 47))) (HI : Hid (Inv q q (1, 1) a acc)) (HP : Hid (p = behinds (1, 1) (q.take a)))
    (M1 : Hid (RM w g B q (.slice vo acc.length vc) acc wc)) (HM3 : Hid (RM w g B q (.slice vo acc.length vc) acc W3 ∧ TB R 1 ⟨#[]⟩ p W3 ∧ Below R wc W3)) (HRz : Hid (R = wc.heap.size)) (hwR : w.heap.size ≤ R)
    (e0 : W3.cell? ⟨g, a, none⟩ = some (.int .i64 (r : Nat))) (hle : letter r = false) (hj0 : j = 0)
    (hret : ∀ a' w', bodyPost Tryd.prog Tryd.f21 (RLexOut (ans (some q)) w) .ret a' w' → Q .ret a' w')
    (hnorm : ∀ (m : Nat) (k : Int) (wx : World) (v99 v100 v101 v102 v103 v104 v105 v106 v107 v108 v109 v110 v111 v112 v113 v114 v115 v116 v117 v118 v119 v120 v121 v122 v123 v124 v125 v126 v127 v128 v129 v130 v131 v132 v133 v134 v135 v136 v137 v138 v139 v140 v141 v142 v143 v144 v145 v146 v147 v148 v149 v150 v151 v152 v153 v154 v155 v156 v157 v158 v159 v160 v161 v162 v163 v164 v165 v166 v167 v168 v169 v170 v171 v172 : Value), Hid (piece (q.drop a) = (k, m) ∧ k ≠ 0 ∧ k ≠ -1 ∧ Below R wc wx ∧ TB R k (txt ((q.drop a).take m)) p wx) → Q .normal ⟨List.toArray (u0 :: u1 :: u2 :: u3 :: u4 :: u5 :: Value.slice (some ⟨g, 0, none⟩) q.length cap :: u7 :: u8 :: Value.int .i64 (a : Nat) :: Value.int .i64 (p.1 : Nat) :: Value.int .i64 (p.2 : Nat) :: Value.int .i64 ((a : Int) + (m : Int)) :: Value.pointer (some ⟨R, 0, none⟩) :: u14 :: u15 :: u16 :: u17 :: u18 :: u19 :: u20 :: u21 :: u22 :: u23 :: u24 :: u25 :: u26 :: u27 :: u28 :: u29 :: u30 :: u31 :: u32 :: u33 :: u34 :: u35 :: u36 :: u37 :: u38 :: u39 :: u40 :: u41 :: u42 :: u43 :: u44 :: u45 :: u46 :: u47 :: u48 :: u49 :: u50 :: u51 :: u52 :: u53 :: u54 :: u55 :: u56 :: u57 :: u58 :: u59 :: u60 :: u61 :: u62 :: u63 :: u64 :: u65 :: u66 :: u67 :: u68 :: u69 :: u70 :: u71 :: u72 :: u73 :: u74 :: u75 :: u76 :: u77 :: u78 :: u79 :: u80 :: u81 :: u82 :: u83 :: u84 :: u85 :: u86 :: u87 :: u88 :: u89 :: u90 :: u91 :: u92 :: u93 :: u94 :: u95 :: u96 :: u97 :: u98 :: v99 :: v100 :: v101 :: v102 :: v103 :: v104 :: v105 :: v106 :: v107 :: v108 :: v109 :: v110 :: v111 :: v112 :: v113 :: v114 :: v115 :: v116 :: v117 :: v118 :: v119 :: v120 :: v121 :: v122 :: v123 :: v124 :: v125 :: v126 :: v127 :: v128 :: v129 :: v130 :: v131 :: v132 :: v133 :: v134 :: v135 :: v136 :: v137 :: v138 :: v139 :: v140 :: v141 :: v142 :: v143 :: v144 :: v145 :: v146 :: v147 :: v148 :: v149 :: v150 :: v151 :: v152 :: v153 :: v154 :: v155 :: v156 :: v157 :: v158 :: v159 :: v160 :: v161 :: v162 :: v163 :: v164 :: v165 :: v166 :: v167 :: v168 :: v169 :: v170 :: v171 :: v172 :: u173 :: u174 :: u175 :: u176 :: u177 :: u178 :: u179 :: u180 :: u181 :: u182 :: u183 :: u184 :: u185 :: u186 :: u187 :: []), []⟩ wx) :
    Code.wp Tryd.prog blk Q ⟨List.toArray (u0 :: u1 :: u2 :: u3 :: u4 :: u5 :: Value.slice (some ⟨g, 0, none⟩) q.length cap :: u7 :: u8 :: Value.int .i64 (a : Nat) :: Value.int .i64 (p.1 : Nat) :: Value.int .i64 (p.2 : Nat) :: Value.int .i64 z :: Value.pointer (some ⟨R, 0, none⟩) :: u14 :: u15 :: u16 :: u17 :: u18 :: u19 :: u20 :: u21 :: u22 :: u23 :: u24 :: u25 :: u26 :: u27 :: u28 :: u29 :: u30 :: u31 :: u32 :: u33 :: u34 :: u35 :: u36 :: u37 :: u38 :: u39 :: u40 :: u41 :: u42 :: u43 :: u44 :: u45 :: u46 :: u47 :: u48 :: u49 :: u50 :: u51 :: u52 :: u53 :: u54 :: u55 :: u56 :: u57 :: u58 :: u59 :: u60 :: u61 :: u62 :: u63 :: u64 :: u65 :: u66 :: u67 :: u68 :: u69 :: u70 :: u71 :: u72 :: u73 :: u74 :: u75 :: u76 :: u77 :: u78 :: u79 :: u80 :: u81 :: u82 :: u83 :: u84 :: u85 :: u86 :: u87 :: u88 :: u89 :: u90 :: u91 :: u92 :: u93 :: u94 :: u95 :: u96 :: u97 :: u98 :: u99 :: u100 :: u101 :: u102 :: u103 :: u104 :: u105 :: u106 :: u107 :: u108 :: u109 :: u110 :: u111 :: u112 :: u113 :: u114 :: u115 :: u116 :: u117 :: u118 :: u119 :: u120 :: u121 :: u122 :: u123 :: u124 :: u125 :: u126 :: u127 :: u128 :: u129 :: u130 :: u131 :: u132 :: u133 :: u134 :: u135 :: u136 :: u137 :: u138 :: u139 :: u140 :: u141 :: u142 :: u143 :: u144 :: u145 :: u146 :: u147 :: u148 :: u149 :: u150 :: u151 :: u152 :: u153 :: u154 :: u155 :: u156 :: u157 :: u158 :: u159 :: u160 :: u161 :: u162 :: u163 :: u164 :: u165 :: u166 :: u167 :: u168 :: u169 :: u170 :: u171 :: u172 :: u173 :: u174 :: u175 :: u176 :: u177 :: u178 :: u179 :: u180 :: u181 :: u182 :: u183 :: u184 :: u185 :: u186 :: u187 :: []), []⟩ W3 := by
  conv => arg 2; whnf
  subst hz
  have HRT := Lib.hid hret
  have HNM := Lib.hid hnorm
  clear hret hnorm
  obtain rfl : j = 0 := hj0
  have hgt : decide ((a : Int) < (a : Int) + ((0 : Nat) : Int)) = false := by simp
  have HEV := Lib.hid (fun x (hx : Below R wc x) => (M1.out.on (by rw [← HRz.out]; exact hx)))
  obtain ⟨D, hD⟩ : ∃ D, D = decide (r = 45 ∧ n = 62) := ⟨_, rfl⟩
  have HDD := Lib.hid hD
  clear hD
  go_upto_region 30 with fail
  go_cut [127] from 99 to 172 (fun v wx => v = .bool D ∧ W3 = wx)
  case first =>
    have e1 := fun h : a + 1 < q.length => HM3.out.1.isl.at h
    by_cases h45 : r = 45
    · by_cases ha1 : a + 1 < q.length
      · have e2 := e1 ha1
        rw [Nat.zero_add, ← HT.out.1 ha1] at e2
        by_cases hn62 : n = 62
        · have hv : decide (r = 45 ∧ n = 62) = true := by simp [h45, hn62]
          obtain rfl := HDD.out.trans hv
          subst h45 hn62
          clear e1 hv HDD
          go_wp2_with fail
          go_meet
          exact ⟨rfl, rfl⟩
        · have hv : decide (r = 45 ∧ n = 62) = false := by simp [hn62]
          have hb : ((n : Int) == 62) = false := by simp; omega
          obtain rfl := HDD.out.trans hv
          subst h45
          clear e1 hv HDD hn62
          go_wp2_with fail
          go_meet
          exact ⟨rfl, rfl⟩
      · have hv : decide (r = 45 ∧ n = 62) = false := by have := hnil ha1; simp; omega
        have hd : decide ((a : Int) < (q.length : Int) - 1) = false := by simp; omega
        obtain rfl := HDD.out.trans hv
        subst h45
        clear e1 hv HDD
        go_wp2_with fail
        go_meet
        exact ⟨rfl, rfl⟩
    · have hv : decide (r = 45 ∧ n = 62) = false := by simp [h45]
      have hb : ((r : Int) == 45) = false := by simp; omega
      obtain rfl := HDD.out.trans hv
      clear e1 hv HDD h45
      go_wp2_with fail
      go_meet
      exact ⟨rfl, rfl⟩
  obtain ⟨rfl, rfl⟩ := hcut
  cases D with
  | true =>
    have hD : r = 45 ∧ n = 62 := by have := HDD.out; simpa using this.symm
    obtain ⟨rfl, hn⟩ := hD
    obtain ⟨u, hu⟩ := headD_ne (HN.out.trans hn) (by decide)
    have HA := Lib.hid (show piece (q.drop a) = (5, 2) ∧ txt ((q.drop a).take 2) = ⟨#[45, 62]⟩ from by
      rw [HD.out, hu]
      exact ⟨by rfl, by rfl⟩)
    obtain ⟨f0, f1⟩ := HM3.out.2.1.free
    obtain ⟨x0, x1, x2, x3⟩ := HM3.out.2.1.cells
    obtain ⟨y0, y1, y2, y3⟩ := (HM3.out.2.1.set0 5).cells
    clear hu hn HDD
    go_wp2_with fail
    exact HNM.out 2 5 _ _ _ _ _ _ _ _ _ _ _ _ _ _ _ _ _ _ _ _ _ _ _ _ _ _ _ _ _ _ _ _ _ _ _ _ _ _ _ _ _ _ _ _ _ _ _ _ _ _ _ _ _ _ _ _ _ _ _ _ _ _ _ _ _ _ _ _ _ _ _ _ _ _ _ (Lib.hid ⟨HA.out.1, by decide, by decide, (HM3.out.2.2.setCell (by simp) _).setCell (by simp) _, by rw [HA.out.2]; exact (HM3.out.2.1.set0 5).set1 ⟨#[45, 62]⟩⟩)
  | false =>
    have hD : ¬ (r = 45 ∧ n = 62) := by have := HDD.out; simpa using this.symm
    have hbs := build15
    have al : Below R wc (W3.alloc (.cells #[.int .i64 123, .int .i64 125, .int .i64 91, .int .i64 93, .int .i64 40, .int .i64 41, .int .i64 61, .int .i64 59, .int .i64 44, .int .i64 58, .int .i64 35, .int .i64 42, .int .i64 124, .int .i64 38, .int .i64 45] 3)) := HM3.out.2.2.alloc (Nat.le_of_lt HM3.out.2.1.lt) _
    have tl : TB R 1 ⟨#[]⟩ p (W3.alloc (.cells #[.int .i64 123, .int .i64 125, .int .i64 91, .int .i64 93, .int .i64 40, .int .i64 41, .int .i64 61, .int .i64 59, .int .i64 44, .int .i64 58, .int .i64 35, .int .i64 42, .int .i64 124, .int .i64 38, .int .i64 45] 3)) := HM3.out.2.1.on ((Below.refl _ _).alloc (Nat.le_refl _) _)
    have HAL := Lib.hid (And.intro al tl)
    have hsc := fun W => sign_call r W
    clear al tl HDD
    cases hsg : sign r with
    | true =>
      rw [hsg] at hsc
      have HSC := Lib.hid hsc
      have hlo := sign_low hsg
      have HA := Lib.hid (show piece (q.drop a) = ((r : Int), 1) ∧ txt ((q.drop a).take 1) = txt [r] from by
        rw [HD.out]
        refine ⟨?_, rfl⟩
        rcases piece_cases r t with ⟨h, _⟩ | ⟨_, h, _⟩ | ⟨_, h, _⟩ | ⟨_, h, _⟩ | ⟨_, _, h, h', _⟩ | ⟨_, _, _, _, e⟩ | ⟨_, _, h, _⟩
        · rw [HNB.out] at h; cases h
        · exact absurd h hlo.2.2.2.1
        · rw [hle] at h; cases h
        · rw [hle] at h; cases h
        · exact absurd ⟨h, HN.out.symm.trans h'⟩ hD
        · exact e
        · rw [hsg] at h; cases h)
      have hr0 : (r : Int) ≠ 0 ∧ (r : Int) ≠ -1 := by omega
      have HTX := Lib.hid (fun x (hx : Below R wc x) => sub_text (cap := cap) (j := 1) (a := a) (HEV.out x hx).isl (by omega) (by omega) (by rw [HD.out]; intro y hy; simp at hy; omega))
      have hsub : ∀ W, (Instr.slice 99 (.slice (some ⟨g, 0, none⟩) q.length cap) (some (.int .i64 (a : Int))) (some (.int .i64 ((a : Int) + 1))) none).run Tryd.prog W = .ok (.slice (some ⟨g, a, none⟩) 1 (cap - a)) W := fun W => sub_run (g := g) (cap := cap) (n := q.length) (a := a) (j := 1) (by omega) (by omega) W
      have HHD := Lib.hid hD
      have HR0 := Lib.hid hr0
      rw [HD.out] at HTX
      change Hid (∀ x, Below R wc x → Calls Tryd.prog 47 #[.slice (some ⟨g, a, none⟩) 1 (cap - a)] x fun e w' => e = .returned (.string (txt [r])) ∧ Below x.heap.size x w') at HTX
      generalize htt : txt [r] = tx at *
      clear htt hsc hsg hlo hr0 hD
      go_wp2_with (first
        | (go_at_call 44; refine (HSC.out _).mono ?_; rintro e W5 ⟨rfl, hW5⟩; obtain ⟨b5, t5⟩ := HAL.out; rw [hW5] at b5 t5; have e5 := (HEV.out W5 b5).isl.at hlt; rw [Nat.zero_add, HRR.out] at e5; obtain ⟨f0, f1⟩ := t5.free; obtain ⟨x0, x1, x2, x3⟩ := t5.cells; have t6 := t5.set0 (r : Int); have b6 : Below R wc (W5.setCell ⟨R, 0, none⟩ (.int .i64 (r : Int))) := b5.setCell (by simp) _; obtain ⟨y0, y1, y2, y3⟩ := t6.cells; have T6 := Lib.hid (And.intro b6 t6); clear b5 t5 b6 t6 hW5)
        | (go_at_call 47; refine (HTX.out _ T6.out.1).mono ?_; rintro e W7 ⟨rfl, b7⟩; have t7 := T6.out.2.on b7; obtain ⟨g0, g1⟩ := t7.free; obtain ⟨z0, z1, z2, z3⟩ := t7.cells; have T7 := Lib.hid (And.intro (show Below R wc W7 from T6.out.1.trans (b7.mono (Nat.le_of_lt T6.out.2.lt))) t7); clear b7 t7))
      exact HNM.out 1 (r : Int) _ _ _ _ _ _ _ _ _ _ _ _ _ _ _ _ _ _ _ _ _ _ _ _ _ _ _ _ _ _ _ _ _ _ _ _ _ _ _ _ _ _ _ _ _ _ _ _ _ _ _ _ _ _ _ _ _ _ _ _ _ _ _ _ _ _ _ _ _ _ _ _ _ _ _ (Lib.hid ⟨HA.out.1, HR0.out.1, HR0.out.2, T7.out.1.setCell (by simp) _, by rw [HA.out.2]; exact T7.out.2.set1 tx⟩)
    | false =>
      rw [hsg] at hsc
      have HSC := Lib.hid hsc
      have hA : piece (q.drop a) = (0, 0) := by
        rw [HD.out]
        rcases piece_cases r t with ⟨h, _⟩ | ⟨_, h, h', _⟩ | ⟨_, h, _⟩ | ⟨_, h, _⟩ | ⟨_, _, h, h', _⟩ | ⟨_, _, h, _⟩ | ⟨_, _, _, _, e⟩
        · rw [HNB.out] at h; cases h
        · exact absurd ⟨h, HN.out.symm.trans h'⟩ HD1.out
        · rw [hle] at h; cases h
        · rw [hle] at h; cases h
        · exact absurd ⟨h, HN.out.symm.trans h'⟩ hD
        · rw [hsg] at h; cases h
        · exact e
      have hA2 := adv_bad HI.out (by rw [HD.out]; simp) (by rw [hA])
      have HA := Lib.hid (show ans (some q) = (10, p, []) from by rw [ans_bad HL.out (by rw [hA2]), hA2, HP.out])
      have HHD := Lib.hid hD
      clear hsc hsg hA hA2 hD
      go_wp2_with (go_at_call 44; refine (HSC.out _).mono ?_; rintro e W5 ⟨rfl, hW5⟩; obtain ⟨b5, t5⟩ := HAL.out; rw [hW5] at b5; have B5 := Lib.hid b5; clear b5 t5 hW5)
      refine HRT.out _ _ (bodyPost_ret (v := .tuple #[.slice none 0 0, .int .i64 (p.1 : Nat), .int .i64 (p.2 : Nat), .int .i64 10]) (by simp [results, Tryd.results21, go_sem]) rfl ⟨.slice none 0 0, by rw [HA.out], by rw [HA.out]; exact World.ownsRow_nil _ _ _ _, ?_⟩)
      exact M1.out.below.trans (B5.out.mono hwR)
end Sg
end Go.Proofs.YtbphmaoomnocmaaDoor
