/-
  Layer 6 (sigil): the document's Lex, its loop.
-/
import Derived.Test.YtbphmaoomnocmaaDoorSgT
import Derived.Deep.DeepCutAuto
import Derived.Deep.LoopGhost
import Derived.Deep.CutBlock
namespace Go.Proofs.YtbphmaoomnocmaaDoor
open Go.RowKit
namespace Sg
open Tr (IsElem own_below own_slice own_open wp_rows walk_rows)
open Knot (Turns NewRow)

set_option maxHeartbeats 8000000 in
set_option maxRecDepth 100000 in
theorem rlex_some (s : ByteArray) (w : World) (hs : s.size ≤ 4000000) (q : List Nat) (hq : Gly.runes s.data.toList = some q) (hl : ¬ 3000 < q.length) (hne : q ≠ []) (hmax : ∀ r ∈ q, r ≤ 1114111) :
    Calls Tryd.prog 21 #[.string s] w (RLexOut (ans (some q)) w) := by
  have hr := fun W => Ref.runes_any s W hs
  rw [hq] at hr
  have hlt : decide (3000 < (q.length : Int)) = false := by simp; omega
  have HR := Lib.hid hr
  have HL := Lib.hid hl
  have HX := Lib.hid hmax
  have H5 := build5
  have hpos := List.length_pos_iff.2 hne
  have hlen : q.length ≤ 3000 := by omega
  clear hr hq hl hmax hne
  go_enter Tryd.func21, Tryd.ntmps21
  go_wp2_with (go_at_call 43; refine (HR.out _).mono ?_; rintro e w1 ⟨v1, rfl, o1, b1⟩; obtain ⟨ao, cap, rfl⟩ := own_slice o1)
  obtain ⟨g, cap', hv⟩ := owned_some o1 hpos
  rw [hv] at o1
  obtain ⟨rfl, -, rfl⟩ : ao = some ⟨g, 0, none⟩ ∧ q.length = q.length ∧ cap = cap' := by simpa using hv
  have hg := o1.lt g rfl
  have hcap : q.length ≤ cap := by
    rcases o1.2 with ⟨h, -⟩ | ⟨g', cap', cur', h, -, -, hc, -⟩
    · simp at h
    · obtain ⟨-, -, rfl⟩ : some (⟨g, 0, none⟩ : Addr) = some ⟨g', 0, none⟩ ∧ q.length = q.length ∧ cap = cap' := by simpa using h
      exact hc
  have hM : RM w g w1.heap.size q (.slice none 0 0) [] w1 :=
    ⟨⟨hg.2, fun j r hj => by
      have := o1.cells (g := g) rfl j (.int .i64 (r : Nat)) (by rw [Ref.nums, List.getElem?_map, hj]; rfl)
      rwa [Tr.addp] at this⟩, b1, World.ownsRow_nil _ _ _ _, hg.2, b1.size, Nat.le_refl _⟩
  have HM := Lib.hid hM
  clear hM o1 b1 hg hv hlt HR
  generalize w1.heap.size = B at *
  go_loopg [8, 9] q.length (fun k v i wr => ∃ (a : Nat) (acc : List Tok), i = .int .i64 (a : Nat) ∧ a + k = q.length ∧ acc.length ≤ a ∧ Hid (RM w g B q v acc wr) ∧ Hid (Inv q q (1, 1) a acc))
  case atStart => exact ⟨0, [], rfl, by omega, by simp, HM, Lib.hid (inv_start q)⟩
  case round =>
    clear HM
    obtain ⟨a, acc, rfl, ha, hacc, HM, HI⟩ := hrel
    obtain ⟨vo, vc, rfl⟩ := own_slice HM.out.own
    by_cases hlt : a < q.length
    · have c0 := HM.out.isl.at hlt
      rw [Nat.zero_add] at c0
      have hmx := HX.out q[a] (List.getElem_mem hlt)
      have hdr : q.drop a = q[a] :: q.drop (a + 1) := List.drop_eq_getElem_cons hlt
      have ht1 : ∀ h : a + 1 < q.length, (q.drop (a + 1)).headD 0 = q[a + 1] := fun h => by rw [List.drop_eq_getElem_cons h]; rfl
      have ht2 : ¬ a + 1 < q.length → q.drop (a + 1) = [] := fun h => List.drop_eq_nil_of_le (by omega)
      generalize hr : q[a] = r at *
      have HRR := Lib.hid hr
      have HD := Lib.hid hdr
      have HT := Lib.hid (And.intro ht1 ht2)
      clear hr hdr ht1 ht2
      generalize q.drop (a + 1) = t at *
      have hbc := fun W => blank_call r W
      cases hb : blank r with
      | true =>
        rw [hb] at hbc
        have HB := Lib.hid hbc
        have HI2 := Lib.hid (show Inv q q (1, 1) (a + 1) acc from adv_blank HI.out HD.out hb)
        clear hbc hb
        go_wp2_with (go_at_call 44; refine (HB.out _).mono ?_; rintro e w' ⟨rfl, rfl⟩)
        go_roundg (gk - 1)
        case rel => exact ⟨a + 1, acc, by go_num, by omega, by omega, Lib.hid (HM.out.on ((Below.refl _ _).alloc (Nat.le_refl _) _)), HI2⟩
        case measure => omega
      | false =>
        rw [hb] at hbc
        have HB := Lib.hid hbc
        have HNB := Lib.hid hb
        clear hbc hb
        by_cases hrem : r = 47 ∧ t.headD 0 = 47
        · obtain ⟨rfl, ht47⟩ := hrem
          have ha1 : a + 1 < q.length := by
            apply Classical.byContradiction
            intro h
            rw [HT.out.2 h] at ht47
            cases ht47
          have HC := Lib.hid (show ∀ x, Below wr.heap.size wr x → x.cell? ⟨g, a, none⟩ = some (.int .i64 47) ∧ x.cell? ⟨g, a + 1, none⟩ = some (.int .i64 47) ∧ Hid (RM w g B q (.slice vo acc.length vc) acc x) from fun x hx => by
            have M := HM.out.on hx
            have e0 := M.isl.at hlt
            have e1 := M.isl.at ha1
            rw [Nat.zero_add, HRR.out] at e0
            rw [Nat.zero_add, ← HT.out.1 ha1, ht47] at e1
            exact ⟨e0, e1, Lib.hid M⟩)
          have al := (Below.refl wr.heap.size wr).alloc (Nat.le_refl _) (.cells #[.int .i64 9, .int .i64 10, .int .i64 13, .int .i64 32, .int .i64 12288] 3)
          have HP := Lib.hid (show piece (q.drop a) = (-1, run inLine (q.drop a)) from by
            rw [HD.out]
            rcases piece_cases 47 t with ⟨h, _⟩ | ⟨_, _, _, e⟩ | ⟨_, _, h, _⟩ | ⟨_, _, h, _⟩ | ⟨_, _, h, _⟩ | ⟨_, _, h, _⟩ | ⟨_, _, _, h, _⟩
            · rw [HNB.out] at h; cases h
            · exact e
            · exact absurd rfl h
            · exact absurd rfl h
            · cases h
            · cases h
            · exact absurd ⟨rfl, ht47⟩ h)
          clear ht47
          have HI2 := Lib.hid (show Inv q q (1, 1) (a + run inLine (q.drop a)) acc from by
            have := adv_gap HI.out (by rw [HD.out]; simp) (by rw [HP.out])
            rwa [HP.out] at this)
          have hrl := run_le inLine (q.drop a)
          rw [List.length_drop] at hrl
          have hr1 : 1 ≤ run inLine (q.drop a) := by rw [HD.out, run_cons _ (by decide)]; omega
          obtain ⟨K, hK⟩ : ∃ K, K = gk := ⟨_, rfl⟩
          go_wp2_with (go_at_call 44; refine (HB.out _).mono ?_; rintro e W1 ⟨rfl, hW1⟩; obtain ⟨d0, d1, M1⟩ := HC.out W1 (hW1 ▸ al); clear hW1 c0)
          clear d0 d1
          go_loopg [9] (q.length - a) (fun k i wi => ∃ (j : Nat), i = .int .i64 ((a + j : Nat) : Int) ∧ a + j + k = q.length ∧ Hid (j + run inLine (q.drop (a + j)) = run inLine (q.drop a)) ∧ wi = W1)
          case atStart => exact ⟨0, rfl, by omega, Lib.hid (by simp), rfl⟩
          case round =>
            obtain ⟨j, rfl, hj, HJ, rfl⟩ := hrel
            by_cases hin : a + j < q.length
            · have hcc := M1.out.isl.at hin
              rw [Nat.zero_add] at hcc
              have hjj := HJ.out
              rw [List.drop_eq_getElem_cons hin] at hjj
              generalize q[a + j] = c at *
              by_cases h10 : c = 10
              · subst h10
                rw [run_stop _ (by decide)] at hjj
                have HJ2 := Lib.hid (show Inv q q (1, 1) (a + j) acc from by rw [show j = run inLine (q.drop a) by omega]; exact HI2.out)
                have hj1 : 1 ≤ j := by omega
                clear hjj HJ
                go_wp2_with fail
                go_roundg (K - j)
                case rel => exact ⟨a + j, acc, rfl, by omega, by omega, M1, HJ2⟩
                case measure => omega
              · have hne : ((c : Int) != 10) = true := by simp; omega
                rw [run_cons _ (by simp [inLine, h10])] at hjj
                have HJ2 := Lib.hid (show j + 1 + run inLine (q.drop (a + (j + 1))) = run inLine (q.drop a) from by rw [show a + (j + 1) = a + j + 1 by omega]; omega)
                clear hjj HJ h10
                go_wp2_with fail
                go_roundg (gk - 1)
                case rel => exact ⟨j + 1, by go_num, by omega, HJ2, rfl⟩
                case measure => omega
            · have hjj := HJ.out
              rw [List.drop_eq_nil_of_le (show q.length ≤ a + j by omega), run_nil] at hjj
              have HJ2 := Lib.hid (show Inv q q (1, 1) (a + j) acc from by rw [show j = run inLine (q.drop a) by omega]; exact HI2.out)
              have hj1 : 1 ≤ j := by omega
              clear hjj HJ
              go_wp2_with fail
              go_roundg (K - j)
              case rel => exact ⟨a + j, acc, rfl, by omega, by omega, M1, HJ2⟩
              case measure => omega
        · have HC := Lib.hid (show ∀ x, Below wr.heap.size wr x → x.cell? ⟨g, a, none⟩ = some (.int .i64 (r : Nat)) ∧ (∀ h : a + 1 < q.length, x.cell? ⟨g, a + 1, none⟩ = some (.int .i64 (t.headD 0 : Nat))) ∧ Hid (RM w g B q (.slice vo acc.length vc) acc x) from fun x hx => by
            have M := HM.out.on hx
            have e0 := M.isl.at hlt
            rw [Nat.zero_add, HRR.out] at e0
            refine ⟨e0, fun h => ?_, Lib.hid M⟩
            have e1 := M.isl.at h
            rwa [Nat.zero_add, ← HT.out.1 h] at e1)
          have al := (Below.refl wr.heap.size wr).alloc (Nat.le_refl _) (.cells #[.int .i64 9, .int .i64 10, .int .i64 13, .int .i64 32, .int .i64 12288] 3)
          have hnil : ¬ a + 1 < q.length → t.headD 0 = 0 := fun h => by rw [HT.out.2 h]; rfl
          generalize hn : t.headD 0 = n at *
          have HN := Lib.hid hn
          clear hn
          go_upto_region 11 with (go_at_call 44; refine (HB.out _).mono ?_; rintro e W1 ⟨rfl, hW1⟩; obtain ⟨d0, d1, M1⟩ := HC.out W1 (hW1 ▸ al); clear hW1 c0)
          go_cut [57] (fun v wx => v = .bool false ∧ wx = W1)
          case first =>
            by_cases h47 : r = 47
            · by_cases ha1 : a + 1 < q.length
              · have e1 := d1 ha1
                have hn47 : ((n : Int) == 47) = false := by simp; omega
                subst h47
                clear d1 hrem
                go_wp2_with fail
                go_meet
                exact ⟨rfl, rfl⟩
              · have hd : decide ((a : Int) < (q.length : Int) - 1) = false := by simp; omega
                subst h47
                clear d1 hrem
                go_wp2_with fail
                go_meet
                exact ⟨rfl, rfl⟩
            · have h1 : ((r : Int) == 47) = false := by simp; omega
              clear d1 hrem h47
              go_wp2_with fail
              go_meet
              exact ⟨rfl, rfl⟩
          obtain ⟨rfl, rfl⟩ := hcut
          have HD1 := Lib.hid (And.intro d1 hrem)
          clear d1 hrem HB HC al HM H5
          have HP0 : ∃ p, p = behinds (1, 1) (q.take a) := ⟨_, rfl⟩
          obtain ⟨p, hp⟩ := HP0
          have HPL := Lib.hid (fun (_ : Unit) => place_any q g cap a wc M1.out.isl (by omega) (by omega))
          rw [← hp] at HPL
          have HP := Lib.hid hp
          clear hp
          go_wp2_with (go_at_call 45; refine (HPL.out ()).mono ?_; rintro e w' ⟨rfl, rfl⟩)
          obtain ⟨K, hK⟩ : ∃ K, K = gk := ⟨_, rfl⟩
          go_loopg [12] (q.length - a) (fun k i wi => ∃ (j : Nat), i = .int .i64 ((a + j : Nat) : Int) ∧ a + j + k = q.length ∧ Hid (Wd q a j r) ∧ wi = wc)
          case atStart => exact ⟨0, rfl, by omega, Lib.hid (.inl rfl), rfl⟩
          case round =>
            obtain ⟨j, rfl, hj, HJ, rfl⟩ := hrel
            obtain ⟨C, hC⟩ : ∃ C, C = goes q a j r := ⟨_, rfl⟩
            have HCC := Lib.hid hC
            clear hC
            go_upto_region 16 with fail
            go_cut [91] (fun v wx => v = .bool C ∧ wx = wr)
            case first =>
              by_cases hin : a + j < q.length
              · have hcc := M1.out.isl.at hin
                rw [Nat.zero_add] at hcc
                have hgo := HCC.out
                rw [goes, if_pos hin] at hgo
                have hmc := HX.out q[a + j] (List.getElem_mem hin)
                by_cases hj0 : j = 0
                · subst hj0
                  have hrr := HRR.out
                  simp only [Nat.add_zero] at hcc
                  rw [hrr] at hcc
                  rw [if_pos rfl] at hgo
                  have HPA := Lib.hid (fun W => part_first r hmx W)
                  rw [← hgo] at HPA
                  clear hgo hrr hmc
                  go_wp2_with (go_at_call 46; refine (HPA.out _).mono ?_; rintro e w' ⟨rfl, rfl⟩)
                  go_meet
                  exact ⟨rfl, rfl⟩
                · have e1 : ((a : Int) + (j : Int) == (a : Int)) = false := by simp; omega
                  rw [if_neg hj0] at hgo
                  have hgd : q.getD (a + j) 0 = q[a + j] := by simp [List.getD, hin]
                  rw [hgd] at hgo
                  generalize q[a + j] = c at *
                  have HPA := Lib.hid (fun W => part_next c hmc W)
                  rw [← hgo] at HPA
                  clear hgo hgd hmc hj0
                  go_wp2_with (go_at_call 46; refine (HPA.out _).mono ?_; rintro e w' ⟨rfl, rfl⟩)
                  go_meet
                  exact ⟨rfl, rfl⟩
              · have hgo := HCC.out
                rw [goes, if_neg hin] at hgo
                subst hgo
                go_wp2_with fail
                go_meet
                exact ⟨rfl, rfl⟩
            obtain ⟨rfl, rfl⟩ := hcut
            cases C with
            | true =>
              have HJ2 := Lib.hid (goes_on HD.out HJ.out HCC.out.symm)
              have hin : a + j < q.length := by
                have := HCC.out
                rw [goes] at this
                split at this
                · assumption
                · cases this
              clear HJ HCC
              go_wp2_with fail
              go_roundg (gk - 1)
              case rel => exact ⟨j + 1, by go_num, by omega, HJ2, rfl⟩
              case measure => omega
            | false =>
              have hst := goes_stop hlt HJ.out HCC.out.symm
              clear HJ HCC
              go_upto_block 6 with fail
              have T3 := TB.new wc 1 ⟨#[]⟩ p
              have hal := (Below.refl wc.heap.size wc).alloc (Nat.le_refl _) (.cells #[.int .i64 1, .string ⟨#[]⟩, .int .i64 (p.1 : Nat), .int .i64 (p.2 : Nat)] 107)
              have hB : B ≤ wc.heap.size := M1.out.size
              obtain ⟨W3, hW3⟩ : ∃ W3, W3 = wc.alloc (.cells #[.int .i64 1, .string ⟨#[]⟩, .int .i64 (p.1 : Nat), .int .i64 (p.2 : Nat)] 107) := ⟨_, rfl⟩
              rw [← hW3] at T3 hal ⊢
              have e0 := (M1.out.on hal).isl.at hlt
              rw [Nat.zero_add, HRR.out] at e0
              have HM3 := Lib.hid (And.intro (M1.out.on hal) (And.intro T3 hal))
              clear hW3 T3 d0 hal
              obtain ⟨R, hR⟩ : ∃ R, R = wc.heap.size := ⟨_, rfl⟩
              rw [← hR] at HM3 hB ⊢
              have HRz := Lib.hid hR
              have hwR : w.heap.size ≤ R := Nat.le_trans M1.out.low hB
              clear hR
              go_cut [12] (fun v wx => ∃ (m : Nat) (k : Int), v = .int .i64 ((a + m : Nat) : Int) ∧ Hid (piece (q.drop a) = (k, m) ∧ k ≠ 0 ∧ k ≠ -1 ∧ Below R wc wx ∧ TB R k (txt ((q.drop a).take m)) p wx))
              case first =>
                rename_i J K' hJ hK'
                rcases hst with ⟨hle, rfl⟩ | ⟨hle, hj1, hjr⟩
                · refine sw_other _ _ _ _ _ _ _ _ _ _ _ _ _ _ _ _ _ _ _ _ _ _ _ _ _ _ _ _ _ _ _ _ _ _ _ _ _ _ _ _ _ _ _ _ _ _ _ _ _ _ _ _ _ _ _ _ _ _ _ _ _ _ _ _ _ _ _ _ _ _ _ _ _ _ _ _ _ _ _ _ _ _ _ _ _ _ _ _ _ _ _ _ _ _ _ _ _ _ _ _ _ _ _ _ _ _ _ _ _ _ _ _ _ _ _ _ _ _ _ _ _ _ _ _ _ _ _ _ _ _ _ _ _ _ _ _ _ _ _ _ _ _ _ _ _ _ _ _ _ _ _ _ _ _ _ _ _ _ _ _ _ _ _ _ _ _ _ _ _ _ _ _ _ _ _ _ _ _ _ _ _ _ _ q w W3 wc g B R cap a r n 0 t _ p acc vo vc (by simp) hlen hcap hlt (by omega) hmx HL HRR HD HT hnil HN HNB (Lib.hid HD1.out.2) HI HP M1 HM3 HRz hwR e0 hle rfl ?_ ?_
                  · intro a' w' h
                    exact h
                  · intro m k wx v99 v100 v101 v102 v103 v104 v105 v106 v107 v108 v109 v110 v111 v112 v113 v114 v115 v116 v117 v118 v119 v120 v121 v122 v123 v124 v125 v126 v127 v128 v129 v130 v131 v132 v133 v134 v135 v136 v137 v138 v139 v140 v141 v142 v143 v144 v145 v146 v147 v148 v149 v150 v151 v152 v153 v154 v155 v156 v157 v158 v159 v160 v161 v162 v163 v164 v165 v166 v167 v168 v169 v170 v171 v172 HH
                    refine hK' _ _ (Met.intro (hJ _ _ ?_))
                    (repeat apply Exists.intro)
                    refine ⟨?_, rfl⟩
                    exact ⟨m, k, by simp, HH⟩
                · refine sw_word _ _ _ _ _ _ _ _ _ _ _ _ _ _ _ _ _ _ _ _ _ _ _ _ _ _ _ _ _ _ _ _ _ _ _ _ _ _ _ _ _ _ _ _ _ _ _ _ _ _ _ _ _ _ _ _ _ _ _ _ _ _ _ _ _ _ _ _ _ _ _ _ _ _ _ _ _ _ _ _ _ _ _ _ _ _ _ _ _ _ _ _ _ _ _ _ _ _ _ _ _ _ _ _ _ _ _ _ _ _ _ _ _ _ _ _ _ _ _ _ _ _ _ _ _ _ _ _ _ _ _ _ _ _ _ _ _ _ _ _ _ _ _ _ _ _ _ _ _ _ _ _ _ _ _ _ _ _ _ _ _ _ _ _ _ _ _ _ _ _ _ _ _ _ _ _ _ _ _ _ _ _ _ q w W3 wc g B R cap a r n j t _ p acc vo vc (by simp) hlen hcap hlt (by omega) hmx HL HRR HD HNB (Lib.hid HD1.out.2) HI HP M1 HM3 hwR e0 hle hj1 hjr ?_ ?_
                  · intro a' w' h
                    exact h
                  · intro m k wx v99 v100 v101 v102 v103 v104 v105 v106 v107 v108 v109 v110 v111 v112 v113 v114 v115 v116 v117 v118 v119 v120 v121 v122 v123 v124 v125 v126 v127 v128 v129 v130 v131 v132 v133 v134 v135 v136 v137 v138 v139 v140 v141 v142 v143 v144 v145 v146 v147 v148 v149 v150 v151 v152 v153 v154 v155 v156 v157 v158 v159 v160 v161 v162 v163 v164 v165 v166 v167 v168 v169 v170 v171 v172 HH
                    refine hK' _ _ (Met.intro (hJ _ _ ?_))
                    (repeat apply Exists.intro)
                    refine ⟨?_, rfl⟩
                    exact ⟨m, k, by simp, HH⟩
              obtain ⟨m, k, rfl, HC⟩ := hcut
              have hps := piece_size (q.drop a)
              rw [HC.out.1, List.length_drop] at hps
              simp only at hps
              have hm1 : 1 ≤ m := hps.2.1 HC.out.2.1
              have hml : a + m ≤ q.length := by have := hps.1; omega
              have M8 := M1.out.on (by rw [← HRz.out]; exact HC.out.2.2.2.1)
              obtain ⟨x0, x1, x2, x3⟩ := HC.out.2.2.2.2.cells
              have HI2 := Lib.hid (show Inv q q (1, 1) (a + m) (acc ++ [⟨k, (q.drop a).take m, p⟩]) from by
                have := adv_tok HI.out (by rw [HD.out]; simp) (by rw [HC.out.1]; exact HC.out.2.1) (by rw [HC.out.1]; exact HC.out.2.2.1)
                rw [HC.out.1, ← HP.out] at this
                exact this)
              clear hps e0 HM3 HRz hst HPL HI HD1
              generalize htt : txt ((q.drop a).take m) = tx at *
              have HTT := Lib.hid htt
              have hbs : ∀ W, (Instr.buildSlice 60 1 #[(0, .agg #[.int .i64 k, .string tx, .int .i64 (p.1 : Nat), .int .i64 (p.2 : Nat)])]).run Tryd.prog W = .ok (.slice (some ⟨W.heap.size, 0, none⟩) 1 1) (W.alloc (.cells #[.int .i64 k, .string tx, .int .i64 (p.1 : Nat), .int .i64 (p.2 : Nat)] 107)) := fun W => by kernel_rfl
              obtain ⟨W8, hW8⟩ : ∃ W8, W8 = wc.alloc (.cells #[.int .i64 k, .string tx, .int .i64 (p.1 : Nat), .int .i64 (p.2 : Nat)] 107) := ⟨_, rfl⟩
              have M9 := Lib.hid (show RM w g B q (.slice vo acc.length vc) acc (wc.alloc (.cells #[.int .i64 k, .string tx, .int .i64 (p.1 : Nat), .int .i64 (p.2 : Nat)] 107)) from M8.on ((Below.refl _ _).alloc (Nat.le_refl _) _))
              have hcn : ∀ j u, (tokC ⟨k, (q.drop a).take m, p⟩)[j]? = some u → (wc.alloc (.cells #[.int .i64 k, .string tx, .int .i64 (p.1 : Nat), .int .i64 (p.2 : Nat)] 107)).cell? ((⟨wc.heap.size, 0, none⟩ : Addr).add j) = some u := by
                intro j u hj
                rw [Tr.addp, Nat.zero_add, Lib.cell_of_heap (heap_alloc_new wc _)]
                rw [tokC, htt] at hj
                simpa using hj
              have HN8 := Lib.hid hcn
              obtain ⟨ti, tz, tb, T, hT⟩ := rtoks_elem
              have HE := Lib.hid (And.intro T hT)
              clear htt hcn T hT M8 hW8
              go_wp2_with (at_builtin; refine walk_rows HE.out.1 rfl _ _ rfl rfl rfl M9.out.own M9.out.size (m := 1) rfl HN8.out (by intro u hu; simp [tokC] at hu; rcases hu with rfl | rfl | rfl | rfl <;> rfl) (by omega) (Nat.le_trans (Nat.mul_le_mul_left _ HE.out.2) (by omega)) ?_)
              intro v2 z o2 g2 n2
              have hbz : Below B (wc.alloc (.cells #[.int .i64 k, .string tx, .int .i64 (p.1 : Nat), .int .i64 (p.2 : Nat)] 107)) z := (Below.refl _ _).grown g2 M9.out.size fun k hk => (M9.out.own.lt k hk).1
              have MZ := Lib.hid (M9.out.grow hbz o2)
              clear o2 g2 n2 hbz M9 HN8 HC
              go_wp2_with fail
              go_roundg (K - m)
              case rel => exact ⟨a + m, _, rfl, by omega, by rw [List.length_append]; simp; omega, MZ, HI2⟩
              case measure => omega
    · obtain rfl : a = q.length := by omega
      have hA2 := adv_end HI.out
      have HA := Lib.hid (show ans (some q) = (0, behinds (1, 1) q, acc) from by rw [ans_ok HL.out (by rw [hA2]), hA2])
      have HPL := Lib.hid (fun (_ : Unit) => place_any q g cap q.length wr HM.out.isl (by omega) (by omega))
      rw [List.take_length] at HPL
      have HB := Lib.hid HM.out.below
      have HO := Lib.hid (own_mono HM.out.own HM.out.low)
      clear hA2 HI HM
      go_wp2_with (go_at_call 45; refine (HPL.out ()).mono ?_; rintro e w' ⟨rfl, rfl⟩)
      refine bodyPost_ret (v := .tuple #[.slice vo acc.length vc, .int .i64 ((behinds (1, 1) q).1 : Nat), .int .i64 ((behinds (1, 1) q).2 : Nat), .int .i64 0]) (by simp [results, Tryd.results21, go_sem]) rfl ⟨.slice vo acc.length vc, by rw [HA.out], by rw [HA.out]; exact HO.out, HB.out⟩

theorem rlex_any (s : ByteArray) (w : World) (hs : s.size ≤ 4000000) :
    Calls Tryd.prog 21 #[.string s] w (RLexOut (ans (Gly.runes s.data.toList)) w) := by
  cases hq : Gly.runes s.data.toList with
  | none => exact rlex_none s w hs hq
  | some q =>
    by_cases hl : 3000 < q.length
    · exact rlex_full s w hs q hq hl
    · by_cases hne : q = []
      · subst hne; exact rlex_empty s w hs hq
      · exact rlex_some s w hs q hq hl hne (runes_max _ _ (Nat.le_refl _) q hq)
end Sg
end Go.Proofs.YtbphmaoomnocmaaDoor
