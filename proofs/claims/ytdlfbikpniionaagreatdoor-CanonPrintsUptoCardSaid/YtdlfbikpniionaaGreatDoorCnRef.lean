/-
  Layer 8: the document's Expr at a good node of at most 24 nodes.
-/
import Derived.Test.YtdlfbikpniionaaGreatDoorCnTx
namespace Go.Proofs.YtdlfbikpniionaaGreatDoor
open Go.RowKit
namespace Cn
open Tr (Nd IsNode IsNodes Box4 node4 good goods size sizes depth depths size_pos size_kids sizes_len sizes_mem sizes_part sizes_take errOf fresh_one)
open Gr (bs bs_list bs_size bs_app bs_of prN prL sepB inTx needsB)

theorem cat3 (k : Int) (l : List Nd) (j : Nat) (h : j < l.length) : bs (prL k true (l.take (j + 1))) = (if j = 0 then bs (prL k true (l.take j)) else bs (prL k true (l.take j)) ++ bs (sepB k)) ++ tx k l[j] := by
  rw [Gr.prL_take h, tx]
  by_cases e : j = 0
  · rw [if_pos e, if_pos e, bs_app, List.nil_append]
  · rw [if_neg e, if_neg e, bs_app, bs_app, List.append_assoc]
theorem prL_short {k : Int} {l : List Nd} (hg : goods l = true) (hl : sizes l ≤ 24) (j : Nat) : (bs (prL k true (l.take j))).size ≤ 2000 := by
  rw [bs_size]
  have h1 := Gr.prL_len (k := k) (l.take j) true fun m hm => (Gr.node_low (size m) m (Nat.le_refl _) (Tr.goods_mem hg (List.mem_of_mem_take hm))).2
  have h2 := sizes_part l j
  omega

set_option maxHeartbeats 8000000 in
set_option maxRecDepth 100000 in
theorem rexpr_any : ∀ (q : Nat) (n : Nd) (v : Value) (w : World), size n ≤ q → size n ≤ 24 → good n = true → IsNode w n v → Calls Tryz.prog 22 #[v] w (Told n w) := by
  intro q
  induction q with
  | zero => intro n v w h; have := size_pos n; omega
  | succ q ih =>
    intro n v w hq h24 hg hn
    obtain ⟨ao, cap, vs, rfl, -, hks⟩ := hn.kids
    cases n with
    | mk k a b l =>
    replace hks : Tr.Kids w l ao vs := hks
    show Calls Tryz.prog 22 #[node4 k a b (.slice ao l.length cap)] w (Told (.mk k a b l) w)
    have hN := Box4.new w k a b (.slice ao l.length cap)
    have al := fresh_one w (.cells #[.int .i64 k, .string a, .string b, .slice ao l.length cap] 45)
    have H0 := Lib.hid (And.intro al hN)
    have hsz : size (.mk k a b l) = sizes l + 1 := by rw [size]; omega
    have hgs : goods l = true := by rw [good, Bool.and_eq_true] at hg; exact hg.1
    have hgc := Gr.good_cases hg
    have HI := Lib.hid (show ∀ n ∈ l, ∀ u x, IsNode x n u → Calls Tryz.prog 22 #[u] x (Told n x) from
      fun n hn u x => ih n u x (by have := sizes_mem hn; omega) (by have := sizes_mem hn; omega) (Tr.goods_mem hgs hn))
    have HG := Lib.hid (And.intro hgs (show sizes l ≤ 24 by omega))
    have HK := Lib.hid hks
    obtain ⟨b0, b1', b2', b3⟩ := hN.cells
    have hll : l.length ≤ 24 := by have := sizes_len l; omega
    clear ih hn hks hgs hg hsz h24 hq al hN
    rcases hgc with ⟨rfl, rfl, rfl, rfl⟩ | ⟨rfl, ha, rfl, rfl⟩ | ⟨rfl, ha, hb, rfl⟩ | ⟨rfl, rfl, rfl, -, -⟩ | ⟨rfl, rfl, rfl, -, -⟩ | ⟨rfl, rfl, rfl, -, -⟩
    · have hfin : prN (.mk 1 Tr.none0 Tr.none0 []) = [116, 104, 105, 115] := by rw [prN, if_pos rfl]
      have HF := Lib.hid hfin
      clear hfin HI HG HK
      go_enter Tryz.func22, Tryz.ntmps22
      go_wp2_with fail
      go_ret
      exact ⟨by rw [HF.out]; rfl, H0.out.1⟩
    · have hfin : bs (prN (.mk 2 a Tr.none0 [])) = a := by rw [prN, if_neg (by decide), if_pos rfl]; exact bs_of a
      have HF := Lib.hid hfin
      clear hfin HI HG HK ha
      go_enter Tryz.func22, Tryz.ntmps22
      go_wp2_with fail
      go_ret
      exact ⟨by rw [HF.out]; rfl, H0.out.1⟩
    · have hab : a.size ≤ 16 ∧ b.size ≤ 16 := ⟨Tr.word_len ha, Tr.word_len hb⟩
      have z1 : (⟨#[45, 62]⟩ : ByteArray).size = 2 := rfl
      have s1 : ∀ W, (Op.stringOp .add a ⟨#[45, 62]⟩).run Tryz.prog W = .ok (.string (a ++ ⟨#[45, 62]⟩)) W := fun W => run_string_add_sum _ _ _ (by rw [z1]; omega)
      have s2 : ∀ W, (Op.stringOp .add (a ++ ⟨#[45, 62]⟩) b).run Tryz.prog W = .ok (.string (a ++ ⟨#[45, 62]⟩ ++ b)) W := fun W => run_string_add_sum _ _ _ (by rw [ByteArray.size_append, z1]; omega)
      have hfin : bs (prN (.mk 3 a b [])) = a ++ ⟨#[45, 62]⟩ ++ b := by
        rw [prN, if_neg (by decide), if_neg (by decide), if_pos rfl, ← bs_app, bs_of, ← bs_app, bs_of, ByteArray.append_assoc]
        rfl
      have HF := Lib.hid hfin
      clear hfin HI HG HK ha hb hab
      go_enter Tryz.func22, Tryz.ntmps22
      go_wp2_with fail
      go_ret
      exact ⟨by rw [HF.out]; rfl, H0.out.1⟩
    · have hfin : prN (.mk 4 Tr.none0 Tr.none0 l) = prL 4 true l := by rw [prN, if_neg (by decide), if_neg (by decide), if_neg (by decide)]
      have HF := Lib.hid hfin
      clear hfin
      go_enter Tryz.func22, Tryz.ntmps22
      go_wp2_with fail
      go_loopw [3, 27] (fun s i wr => ∃ j : Nat, j ≤ l.length ∧ i = .int .i64 j ∧ s = .string (bs (prL 4 true (l.take j))) ∧ Hid (Below w.heap.size w wr ∧ Box4 w.heap.size 4 Tr.none0 Tr.none0 (.slice ao l.length cap) wr)) (fun _ i _ => l.length - (intOf i).toNat)
      case atStart => exact ⟨0, by omega, rfl, by rw [List.take_zero, prL]; rfl, H0⟩
      case round =>
        obtain ⟨j, hj, rfl, rfl, HW⟩ := hrel
        clear b0 b1' b2' b3 H0
        obtain ⟨b0, b1', b2', b3⟩ := HW.out.2.cells
        by_cases hlt : j < l.length
        · obtain ⟨g, q', sa, sc, hix, hgw, c0, c1, c2, c3, hn⟩ := (HK.out.below HW.out.1).at cap hlt
          have HC := Lib.hid (HI.out l[j] (List.getElem_mem hlt) _ wr hn)
          have hS := prL_short (k := 4) HG.out.1 HG.out.2 j
          have hP : (bs (prN l[j])).size ≤ 2000 := by
            have h1 := (Gr.node_low (size l[j]) l[j] (Nat.le_refl _) (Tr.goods_mem HG.out.1 (List.getElem_mem hlt))).2
            have h2 := sizes_mem (List.getElem_mem hlt)
            have h3 := HG.out.2
            rw [bs_size]
            omega
          have hj3 : j ≤ 24 := by omega
          have HB := Lib.hid HW.out.1
          have HN := Lib.hid HW.out.2
          clear hn HW hgw
          have hkk : l[j].kind = 4 ∨ l[j].kind ≠ 4 := by omega
          rcases hkk with hk | hk
          · rw [hk] at c0 HC
            have hnb : needsB 4 l[j].kind = true := by
              rw [hk]; rfl
            have e1 : tx 4 l[j] = ⟨#[40]⟩ ++ bs (prN l[j]) ++ ⟨#[41]⟩ := by rw [tx, hnb, in_br]
            have a1 : ∀ W, (Op.stringOp .add ⟨#[40]⟩ (bs (prN l[j]))).run Tryz.prog W = .ok (.string (⟨#[40]⟩ ++ bs (prN l[j]))) W := fun W => run_string_add_sum _ _ _ (by rw [show (⟨#[40]⟩ : ByteArray).size = 1 from rfl]; omega)
            have a2 : ∀ W, (Op.stringOp .add (⟨#[40]⟩ ++ bs (prN l[j])) ⟨#[41]⟩).run Tryz.prog W = .ok (.string (⟨#[40]⟩ ++ bs (prN l[j]) ++ ⟨#[41]⟩)) W := fun W => run_string_add_sum _ _ _ (by rw [ByteArray.size_append, show (⟨#[40]⟩ : ByteArray).size = 1 from rfl, show (⟨#[41]⟩ : ByteArray).size = 1 from rfl]; omega)
            have hcat := cat3 4 l j hlt
            rw [e1] at hcat
            have HE := Lib.hid hcat
            clear hcat e1 hnb hk
            by_cases hj0 : 0 < j
            · have b1 : ∀ W, (Op.stringOp .add (bs (prL 4 true (l.take j))) ⟨#[32, 124, 32]⟩).run Tryz.prog W = .ok (.string (bs (prL 4 true (l.take j)) ++ ⟨#[32, 124, 32]⟩)) W := fun W => run_string_add_sum _ _ _ (by rw [show (⟨#[32, 124, 32]⟩ : ByteArray).size = 3 from rfl]; omega)
              have b2 : ∀ W, (Op.stringOp .add (bs (prL 4 true (l.take j)) ++ ⟨#[32, 124, 32]⟩) (⟨#[40]⟩ ++ bs (prN l[j]) ++ ⟨#[41]⟩)).run Tryz.prog W = .ok (.string (bs (prL 4 true (l.take j)) ++ ⟨#[32, 124, 32]⟩ ++ (⟨#[40]⟩ ++ bs (prN l[j]) ++ ⟨#[41]⟩))) W := fun W => run_string_add_sum _ _ _ (by rw [ByteArray.size_append, show (⟨#[32, 124, 32]⟩ : ByteArray).size = 3 from rfl, ByteArray.size_append, ByteArray.size_append, show (⟨#[40]⟩ : ByteArray).size = 1 from rfl, show (⟨#[41]⟩ : ByteArray).size = 1 from rfl]; omega)
              have HE2 := Lib.hid (show bs (prL 4 true (l.take (j + 1))) = bs (prL 4 true (l.take j)) ++ ⟨#[32, 124, 32]⟩ ++ (⟨#[40]⟩ ++ bs (prN l[j]) ++ ⟨#[41]⟩) from by rw [HE.out, if_neg (by omega)]; rfl)
              clear HE
              go_wp2_with fail
              refine HC.out.mono ?_
              rintro e x ⟨rfl, hx⟩
              have HX := Lib.hid (And.intro (HB.out.trans (hx.mono HB.out.size)) (HN.out.on hx))
              clear HC HB hx HN b0 b1' b2' b3
              obtain ⟨b0, -, -, b3⟩ := HX.out.2.cells
              go_wp2_with fail
              go_roundw
              case rel => exact ⟨j + 1, by omega, by go_num, by rw [HE2.out], HX⟩
              case measure => simp [intOf]; omega
            · have b2 : ∀ W, (Op.stringOp .add (bs (prL 4 true (l.take j))) (⟨#[40]⟩ ++ bs (prN l[j]) ++ ⟨#[41]⟩)).run Tryz.prog W = .ok (.string (bs (prL 4 true (l.take j)) ++ (⟨#[40]⟩ ++ bs (prN l[j]) ++ ⟨#[41]⟩))) W := fun W => run_string_add_sum _ _ _ (by rw [ByteArray.size_append, ByteArray.size_append, show (⟨#[40]⟩ : ByteArray).size = 1 from rfl, show (⟨#[41]⟩ : ByteArray).size = 1 from rfl]; omega)
              have HE2 := Lib.hid (show bs (prL 4 true (l.take (j + 1))) = bs (prL 4 true (l.take j)) ++ (⟨#[40]⟩ ++ bs (prN l[j]) ++ ⟨#[41]⟩) from by rw [HE.out, if_pos (by omega)])
              clear HE
              go_wp2_with fail
              refine HC.out.mono ?_
              rintro e x ⟨rfl, hx⟩
              have HX := Lib.hid (And.intro (HB.out.trans (hx.mono HB.out.size)) (HN.out.on hx))
              clear HC HB hx HN b0 b1' b2' b3
              obtain ⟨b0, -, -, b3⟩ := HX.out.2.cells
              go_wp2_with fail
              go_roundw
              case rel => exact ⟨j + 1, by omega, by go_num, by rw [HE2.out], HX⟩
              case measure => simp [intOf]; omega
          · have q4 : (l[j].kind == 4) = false := beq_eq_false_iff_ne.2 hk
            have hnb : needsB 4 l[j].kind = false := by
              simp [needsB, hk]
            have e1 : tx 4 l[j] = bs (prN l[j]) := by rw [tx, hnb]; rfl
            have hcat := cat3 4 l j hlt
            rw [e1] at hcat
            have HE := Lib.hid hcat
            clear hcat e1 hnb hk
            by_cases hj0 : 0 < j
            · have b1 : ∀ W, (Op.stringOp .add (bs (prL 4 true (l.take j))) ⟨#[32, 124, 32]⟩).run Tryz.prog W = .ok (.string (bs (prL 4 true (l.take j)) ++ ⟨#[32, 124, 32]⟩)) W := fun W => run_string_add_sum _ _ _ (by rw [show (⟨#[32, 124, 32]⟩ : ByteArray).size = 3 from rfl]; omega)
              have b2 : ∀ W, (Op.stringOp .add (bs (prL 4 true (l.take j)) ++ ⟨#[32, 124, 32]⟩) (bs (prN l[j]))).run Tryz.prog W = .ok (.string (bs (prL 4 true (l.take j)) ++ ⟨#[32, 124, 32]⟩ ++ (bs (prN l[j])))) W := fun W => run_string_add_sum _ _ _ (by rw [ByteArray.size_append, show (⟨#[32, 124, 32]⟩ : ByteArray).size = 3 from rfl]; omega)
              have HE2 := Lib.hid (show bs (prL 4 true (l.take (j + 1))) = bs (prL 4 true (l.take j)) ++ ⟨#[32, 124, 32]⟩ ++ (bs (prN l[j])) from by rw [HE.out, if_neg (by omega)]; rfl)
              clear HE
              go_wp2_with fail
              refine HC.out.mono ?_
              rintro e x ⟨rfl, hx⟩
              have HX := Lib.hid (And.intro (HB.out.trans (hx.mono HB.out.size)) (HN.out.on hx))
              clear HC HB hx HN b0 b1' b2' b3
              obtain ⟨b0, -, -, b3⟩ := HX.out.2.cells
              go_wp2_with fail
              go_roundw
              case rel => exact ⟨j + 1, by omega, by go_num, by rw [HE2.out], HX⟩
              case measure => simp [intOf]; omega
            · have b2 : ∀ W, (Op.stringOp .add (bs (prL 4 true (l.take j))) (bs (prN l[j]))).run Tryz.prog W = .ok (.string (bs (prL 4 true (l.take j)) ++ (bs (prN l[j])))) W := fun W => run_string_add_sum _ _ _ (by omega)
              have HE2 := Lib.hid (show bs (prL 4 true (l.take (j + 1))) = bs (prL 4 true (l.take j)) ++ (bs (prN l[j])) from by rw [HE.out, if_pos (by omega)])
              clear HE
              go_wp2_with fail
              refine HC.out.mono ?_
              rintro e x ⟨rfl, hx⟩
              have HX := Lib.hid (And.intro (HB.out.trans (hx.mono HB.out.size)) (HN.out.on hx))
              clear HC HB hx HN b0 b1' b2' b3
              obtain ⟨b0, -, -, b3⟩ := HX.out.2.cells
              go_wp2_with fail
              go_roundw
              case rel => exact ⟨j + 1, by omega, by go_num, by rw [HE2.out], HX⟩
              case measure => simp [intOf]; omega
        · have hj' : j = l.length := by omega
          subst hj'
          rw [List.take_length]
          clear HI HK HG
          go_wp2_with fail
          go_ret
          exact ⟨by rw [HF.out]; rfl, HW.out.1⟩
    · have hfin : prN (.mk 5 Tr.none0 Tr.none0 l) = prL 5 true l := by rw [prN, if_neg (by decide), if_neg (by decide), if_neg (by decide)]
      have HF := Lib.hid hfin
      clear hfin
      go_enter Tryz.func22, Tryz.ntmps22
      go_wp2_with fail
      go_loopw [3, 27] (fun s i wr => ∃ j : Nat, j ≤ l.length ∧ i = .int .i64 j ∧ s = .string (bs (prL 5 true (l.take j))) ∧ Hid (Below w.heap.size w wr ∧ Box4 w.heap.size 5 Tr.none0 Tr.none0 (.slice ao l.length cap) wr)) (fun _ i _ => l.length - (intOf i).toNat)
      case atStart => exact ⟨0, by omega, rfl, by rw [List.take_zero, prL]; rfl, H0⟩
      case round =>
        obtain ⟨j, hj, rfl, rfl, HW⟩ := hrel
        clear b0 b1' b2' b3 H0
        obtain ⟨b0, b1', b2', b3⟩ := HW.out.2.cells
        by_cases hlt : j < l.length
        · obtain ⟨g, q', sa, sc, hix, hgw, c0, c1, c2, c3, hn⟩ := (HK.out.below HW.out.1).at cap hlt
          have HC := Lib.hid (HI.out l[j] (List.getElem_mem hlt) _ wr hn)
          have hS := prL_short (k := 5) HG.out.1 HG.out.2 j
          have hP : (bs (prN l[j])).size ≤ 2000 := by
            have h1 := (Gr.node_low (size l[j]) l[j] (Nat.le_refl _) (Tr.goods_mem HG.out.1 (List.getElem_mem hlt))).2
            have h2 := sizes_mem (List.getElem_mem hlt)
            have h3 := HG.out.2
            rw [bs_size]
            omega
          have hj3 : j ≤ 24 := by omega
          have HB := Lib.hid HW.out.1
          have HN := Lib.hid HW.out.2
          clear hn HW hgw
          have hkk : l[j].kind = 4 ∨ l[j].kind = 5 ∨ (l[j].kind ≠ 4 ∧ l[j].kind ≠ 5) := by omega
          rcases hkk with hk | hk | ⟨hk, hk5⟩
          · rw [hk] at c0 HC
            have hnb : needsB 5 l[j].kind = true := by
              rw [hk]; rfl
            have e1 : tx 5 l[j] = ⟨#[40]⟩ ++ bs (prN l[j]) ++ ⟨#[41]⟩ := by rw [tx, hnb, in_br]
            have a1 : ∀ W, (Op.stringOp .add ⟨#[40]⟩ (bs (prN l[j]))).run Tryz.prog W = .ok (.string (⟨#[40]⟩ ++ bs (prN l[j]))) W := fun W => run_string_add_sum _ _ _ (by rw [show (⟨#[40]⟩ : ByteArray).size = 1 from rfl]; omega)
            have a2 : ∀ W, (Op.stringOp .add (⟨#[40]⟩ ++ bs (prN l[j])) ⟨#[41]⟩).run Tryz.prog W = .ok (.string (⟨#[40]⟩ ++ bs (prN l[j]) ++ ⟨#[41]⟩)) W := fun W => run_string_add_sum _ _ _ (by rw [ByteArray.size_append, show (⟨#[40]⟩ : ByteArray).size = 1 from rfl, show (⟨#[41]⟩ : ByteArray).size = 1 from rfl]; omega)
            have hcat := cat3 5 l j hlt
            rw [e1] at hcat
            have HE := Lib.hid hcat
            clear hcat e1 hnb hk
            by_cases hj0 : 0 < j
            · have b1 : ∀ W, (Op.stringOp .add (bs (prL 5 true (l.take j))) ⟨#[32, 38, 32]⟩).run Tryz.prog W = .ok (.string (bs (prL 5 true (l.take j)) ++ ⟨#[32, 38, 32]⟩)) W := fun W => run_string_add_sum _ _ _ (by rw [show (⟨#[32, 38, 32]⟩ : ByteArray).size = 3 from rfl]; omega)
              have b2 : ∀ W, (Op.stringOp .add (bs (prL 5 true (l.take j)) ++ ⟨#[32, 38, 32]⟩) (⟨#[40]⟩ ++ bs (prN l[j]) ++ ⟨#[41]⟩)).run Tryz.prog W = .ok (.string (bs (prL 5 true (l.take j)) ++ ⟨#[32, 38, 32]⟩ ++ (⟨#[40]⟩ ++ bs (prN l[j]) ++ ⟨#[41]⟩))) W := fun W => run_string_add_sum _ _ _ (by rw [ByteArray.size_append, show (⟨#[32, 38, 32]⟩ : ByteArray).size = 3 from rfl, ByteArray.size_append, ByteArray.size_append, show (⟨#[40]⟩ : ByteArray).size = 1 from rfl, show (⟨#[41]⟩ : ByteArray).size = 1 from rfl]; omega)
              have HE2 := Lib.hid (show bs (prL 5 true (l.take (j + 1))) = bs (prL 5 true (l.take j)) ++ ⟨#[32, 38, 32]⟩ ++ (⟨#[40]⟩ ++ bs (prN l[j]) ++ ⟨#[41]⟩) from by rw [HE.out, if_neg (by omega)]; rfl)
              clear HE
              go_wp2_with fail
              refine HC.out.mono ?_
              rintro e x ⟨rfl, hx⟩
              have HX := Lib.hid (And.intro (HB.out.trans (hx.mono HB.out.size)) (HN.out.on hx))
              clear HC HB hx HN b0 b1' b2' b3
              obtain ⟨b0, -, -, b3⟩ := HX.out.2.cells
              go_wp2_with fail
              go_roundw
              case rel => exact ⟨j + 1, by omega, by go_num, by rw [HE2.out], HX⟩
              case measure => simp [intOf]; omega
            · have b2 : ∀ W, (Op.stringOp .add (bs (prL 5 true (l.take j))) (⟨#[40]⟩ ++ bs (prN l[j]) ++ ⟨#[41]⟩)).run Tryz.prog W = .ok (.string (bs (prL 5 true (l.take j)) ++ (⟨#[40]⟩ ++ bs (prN l[j]) ++ ⟨#[41]⟩))) W := fun W => run_string_add_sum _ _ _ (by rw [ByteArray.size_append, ByteArray.size_append, show (⟨#[40]⟩ : ByteArray).size = 1 from rfl, show (⟨#[41]⟩ : ByteArray).size = 1 from rfl]; omega)
              have HE2 := Lib.hid (show bs (prL 5 true (l.take (j + 1))) = bs (prL 5 true (l.take j)) ++ (⟨#[40]⟩ ++ bs (prN l[j]) ++ ⟨#[41]⟩) from by rw [HE.out, if_pos (by omega)])
              clear HE
              go_wp2_with fail
              refine HC.out.mono ?_
              rintro e x ⟨rfl, hx⟩
              have HX := Lib.hid (And.intro (HB.out.trans (hx.mono HB.out.size)) (HN.out.on hx))
              clear HC HB hx HN b0 b1' b2' b3
              obtain ⟨b0, -, -, b3⟩ := HX.out.2.cells
              go_wp2_with fail
              go_roundw
              case rel => exact ⟨j + 1, by omega, by go_num, by rw [HE2.out], HX⟩
              case measure => simp [intOf]; omega
          · rw [hk] at c0 HC
            have hnb : needsB 5 l[j].kind = true := by
              rw [hk]; rfl
            have e1 : tx 5 l[j] = ⟨#[40]⟩ ++ bs (prN l[j]) ++ ⟨#[41]⟩ := by rw [tx, hnb, in_br]
            have a1 : ∀ W, (Op.stringOp .add ⟨#[40]⟩ (bs (prN l[j]))).run Tryz.prog W = .ok (.string (⟨#[40]⟩ ++ bs (prN l[j]))) W := fun W => run_string_add_sum _ _ _ (by rw [show (⟨#[40]⟩ : ByteArray).size = 1 from rfl]; omega)
            have a2 : ∀ W, (Op.stringOp .add (⟨#[40]⟩ ++ bs (prN l[j])) ⟨#[41]⟩).run Tryz.prog W = .ok (.string (⟨#[40]⟩ ++ bs (prN l[j]) ++ ⟨#[41]⟩)) W := fun W => run_string_add_sum _ _ _ (by rw [ByteArray.size_append, show (⟨#[40]⟩ : ByteArray).size = 1 from rfl, show (⟨#[41]⟩ : ByteArray).size = 1 from rfl]; omega)
            have hcat := cat3 5 l j hlt
            rw [e1] at hcat
            have HE := Lib.hid hcat
            clear hcat e1 hnb hk
            by_cases hj0 : 0 < j
            · have b1 : ∀ W, (Op.stringOp .add (bs (prL 5 true (l.take j))) ⟨#[32, 38, 32]⟩).run Tryz.prog W = .ok (.string (bs (prL 5 true (l.take j)) ++ ⟨#[32, 38, 32]⟩)) W := fun W => run_string_add_sum _ _ _ (by rw [show (⟨#[32, 38, 32]⟩ : ByteArray).size = 3 from rfl]; omega)
              have b2 : ∀ W, (Op.stringOp .add (bs (prL 5 true (l.take j)) ++ ⟨#[32, 38, 32]⟩) (⟨#[40]⟩ ++ bs (prN l[j]) ++ ⟨#[41]⟩)).run Tryz.prog W = .ok (.string (bs (prL 5 true (l.take j)) ++ ⟨#[32, 38, 32]⟩ ++ (⟨#[40]⟩ ++ bs (prN l[j]) ++ ⟨#[41]⟩))) W := fun W => run_string_add_sum _ _ _ (by rw [ByteArray.size_append, show (⟨#[32, 38, 32]⟩ : ByteArray).size = 3 from rfl, ByteArray.size_append, ByteArray.size_append, show (⟨#[40]⟩ : ByteArray).size = 1 from rfl, show (⟨#[41]⟩ : ByteArray).size = 1 from rfl]; omega)
              have HE2 := Lib.hid (show bs (prL 5 true (l.take (j + 1))) = bs (prL 5 true (l.take j)) ++ ⟨#[32, 38, 32]⟩ ++ (⟨#[40]⟩ ++ bs (prN l[j]) ++ ⟨#[41]⟩) from by rw [HE.out, if_neg (by omega)]; rfl)
              clear HE
              go_wp2_with fail
              refine HC.out.mono ?_
              rintro e x ⟨rfl, hx⟩
              have HX := Lib.hid (And.intro (HB.out.trans (hx.mono HB.out.size)) (HN.out.on hx))
              clear HC HB hx HN b0 b1' b2' b3
              obtain ⟨b0, -, -, b3⟩ := HX.out.2.cells
              go_wp2_with fail
              go_roundw
              case rel => exact ⟨j + 1, by omega, by go_num, by rw [HE2.out], HX⟩
              case measure => simp [intOf]; omega
            · have b2 : ∀ W, (Op.stringOp .add (bs (prL 5 true (l.take j))) (⟨#[40]⟩ ++ bs (prN l[j]) ++ ⟨#[41]⟩)).run Tryz.prog W = .ok (.string (bs (prL 5 true (l.take j)) ++ (⟨#[40]⟩ ++ bs (prN l[j]) ++ ⟨#[41]⟩))) W := fun W => run_string_add_sum _ _ _ (by rw [ByteArray.size_append, ByteArray.size_append, show (⟨#[40]⟩ : ByteArray).size = 1 from rfl, show (⟨#[41]⟩ : ByteArray).size = 1 from rfl]; omega)
              have HE2 := Lib.hid (show bs (prL 5 true (l.take (j + 1))) = bs (prL 5 true (l.take j)) ++ (⟨#[40]⟩ ++ bs (prN l[j]) ++ ⟨#[41]⟩) from by rw [HE.out, if_pos (by omega)])
              clear HE
              go_wp2_with fail
              refine HC.out.mono ?_
              rintro e x ⟨rfl, hx⟩
              have HX := Lib.hid (And.intro (HB.out.trans (hx.mono HB.out.size)) (HN.out.on hx))
              clear HC HB hx HN b0 b1' b2' b3
              obtain ⟨b0, -, -, b3⟩ := HX.out.2.cells
              go_wp2_with fail
              go_roundw
              case rel => exact ⟨j + 1, by omega, by go_num, by rw [HE2.out], HX⟩
              case measure => simp [intOf]; omega
          · have q4 : (l[j].kind == 4) = false := beq_eq_false_iff_ne.2 hk
            have q5 : (l[j].kind == 5) = false := beq_eq_false_iff_ne.2 hk5
            have hnb : needsB 5 l[j].kind = false := by
              simp [needsB, hk, hk5]
            have e1 : tx 5 l[j] = bs (prN l[j]) := by rw [tx, hnb]; rfl
            have hcat := cat3 5 l j hlt
            rw [e1] at hcat
            have HE := Lib.hid hcat
            clear hcat e1 hnb hk hk5
            by_cases hj0 : 0 < j
            · have b1 : ∀ W, (Op.stringOp .add (bs (prL 5 true (l.take j))) ⟨#[32, 38, 32]⟩).run Tryz.prog W = .ok (.string (bs (prL 5 true (l.take j)) ++ ⟨#[32, 38, 32]⟩)) W := fun W => run_string_add_sum _ _ _ (by rw [show (⟨#[32, 38, 32]⟩ : ByteArray).size = 3 from rfl]; omega)
              have b2 : ∀ W, (Op.stringOp .add (bs (prL 5 true (l.take j)) ++ ⟨#[32, 38, 32]⟩) (bs (prN l[j]))).run Tryz.prog W = .ok (.string (bs (prL 5 true (l.take j)) ++ ⟨#[32, 38, 32]⟩ ++ (bs (prN l[j])))) W := fun W => run_string_add_sum _ _ _ (by rw [ByteArray.size_append, show (⟨#[32, 38, 32]⟩ : ByteArray).size = 3 from rfl]; omega)
              have HE2 := Lib.hid (show bs (prL 5 true (l.take (j + 1))) = bs (prL 5 true (l.take j)) ++ ⟨#[32, 38, 32]⟩ ++ (bs (prN l[j])) from by rw [HE.out, if_neg (by omega)]; rfl)
              clear HE
              go_wp2_with fail
              refine HC.out.mono ?_
              rintro e x ⟨rfl, hx⟩
              have HX := Lib.hid (And.intro (HB.out.trans (hx.mono HB.out.size)) (HN.out.on hx))
              clear HC HB hx HN b0 b1' b2' b3
              obtain ⟨b0, -, -, b3⟩ := HX.out.2.cells
              go_wp2_with fail
              go_roundw
              case rel => exact ⟨j + 1, by omega, by go_num, by rw [HE2.out], HX⟩
              case measure => simp [intOf]; omega
            · have b2 : ∀ W, (Op.stringOp .add (bs (prL 5 true (l.take j))) (bs (prN l[j]))).run Tryz.prog W = .ok (.string (bs (prL 5 true (l.take j)) ++ (bs (prN l[j])))) W := fun W => run_string_add_sum _ _ _ (by omega)
              have HE2 := Lib.hid (show bs (prL 5 true (l.take (j + 1))) = bs (prL 5 true (l.take j)) ++ (bs (prN l[j])) from by rw [HE.out, if_pos (by omega)])
              clear HE
              go_wp2_with fail
              refine HC.out.mono ?_
              rintro e x ⟨rfl, hx⟩
              have HX := Lib.hid (And.intro (HB.out.trans (hx.mono HB.out.size)) (HN.out.on hx))
              clear HC HB hx HN b0 b1' b2' b3
              obtain ⟨b0, -, -, b3⟩ := HX.out.2.cells
              go_wp2_with fail
              go_roundw
              case rel => exact ⟨j + 1, by omega, by go_num, by rw [HE2.out], HX⟩
              case measure => simp [intOf]; omega
        · have hj' : j = l.length := by omega
          subst hj'
          rw [List.take_length]
          clear HI HK HG
          go_wp2_with fail
          go_ret
          exact ⟨by rw [HF.out]; rfl, HW.out.1⟩
    · have hfin : prN (.mk 6 Tr.none0 Tr.none0 l) = prL 6 true l := by rw [prN, if_neg (by decide), if_neg (by decide), if_neg (by decide)]
      have HF := Lib.hid hfin
      clear hfin
      go_enter Tryz.func22, Tryz.ntmps22
      go_wp2_with fail
      go_loopw [3, 27] (fun s i wr => ∃ j : Nat, j ≤ l.length ∧ i = .int .i64 j ∧ s = .string (bs (prL 6 true (l.take j))) ∧ Hid (Below w.heap.size w wr ∧ Box4 w.heap.size 6 Tr.none0 Tr.none0 (.slice ao l.length cap) wr)) (fun _ i _ => l.length - (intOf i).toNat)
      case atStart => exact ⟨0, by omega, rfl, by rw [List.take_zero, prL]; rfl, H0⟩
      case round =>
        obtain ⟨j, hj, rfl, rfl, HW⟩ := hrel
        clear b0 b1' b2' b3 H0
        obtain ⟨b0, b1', b2', b3⟩ := HW.out.2.cells
        by_cases hlt : j < l.length
        · obtain ⟨g, q', sa, sc, hix, hgw, c0, c1, c2, c3, hn⟩ := (HK.out.below HW.out.1).at cap hlt
          have HC := Lib.hid (HI.out l[j] (List.getElem_mem hlt) _ wr hn)
          have hS := prL_short (k := 6) HG.out.1 HG.out.2 j
          have hP : (bs (prN l[j])).size ≤ 2000 := by
            have h1 := (Gr.node_low (size l[j]) l[j] (Nat.le_refl _) (Tr.goods_mem HG.out.1 (List.getElem_mem hlt))).2
            have h2 := sizes_mem (List.getElem_mem hlt)
            have h3 := HG.out.2
            rw [bs_size]
            omega
          have hj3 : j ≤ 24 := by omega
          have HB := Lib.hid HW.out.1
          have HN := Lib.hid HW.out.2
          clear hn HW hgw
          have hkk : 4 ≤ l[j].kind ∨ ¬ 4 ≤ l[j].kind := by omega
          rcases hkk with hk | hk
          · skip
            have hnb : needsB 6 l[j].kind = true := by
              simp [needsB, hk]
            have e1 : tx 6 l[j] = ⟨#[40]⟩ ++ bs (prN l[j]) ++ ⟨#[41]⟩ := by rw [tx, hnb, in_br]
            have a1 : ∀ W, (Op.stringOp .add ⟨#[40]⟩ (bs (prN l[j]))).run Tryz.prog W = .ok (.string (⟨#[40]⟩ ++ bs (prN l[j]))) W := fun W => run_string_add_sum _ _ _ (by rw [show (⟨#[40]⟩ : ByteArray).size = 1 from rfl]; omega)
            have a2 : ∀ W, (Op.stringOp .add (⟨#[40]⟩ ++ bs (prN l[j])) ⟨#[41]⟩).run Tryz.prog W = .ok (.string (⟨#[40]⟩ ++ bs (prN l[j]) ++ ⟨#[41]⟩)) W := fun W => run_string_add_sum _ _ _ (by rw [ByteArray.size_append, show (⟨#[40]⟩ : ByteArray).size = 1 from rfl, show (⟨#[41]⟩ : ByteArray).size = 1 from rfl]; omega)
            have hcat := cat3 6 l j hlt
            rw [e1] at hcat
            have HE := Lib.hid hcat
            clear hcat e1 hnb
            by_cases hj0 : 0 < j
            · have b1 : ∀ W, (Op.stringOp .add (bs (prL 6 true (l.take j))) ⟨#[32, 45, 32]⟩).run Tryz.prog W = .ok (.string (bs (prL 6 true (l.take j)) ++ ⟨#[32, 45, 32]⟩)) W := fun W => run_string_add_sum _ _ _ (by rw [show (⟨#[32, 45, 32]⟩ : ByteArray).size = 3 from rfl]; omega)
              have b2 : ∀ W, (Op.stringOp .add (bs (prL 6 true (l.take j)) ++ ⟨#[32, 45, 32]⟩) (⟨#[40]⟩ ++ bs (prN l[j]) ++ ⟨#[41]⟩)).run Tryz.prog W = .ok (.string (bs (prL 6 true (l.take j)) ++ ⟨#[32, 45, 32]⟩ ++ (⟨#[40]⟩ ++ bs (prN l[j]) ++ ⟨#[41]⟩))) W := fun W => run_string_add_sum _ _ _ (by rw [ByteArray.size_append, show (⟨#[32, 45, 32]⟩ : ByteArray).size = 3 from rfl, ByteArray.size_append, ByteArray.size_append, show (⟨#[40]⟩ : ByteArray).size = 1 from rfl, show (⟨#[41]⟩ : ByteArray).size = 1 from rfl]; omega)
              have HE2 := Lib.hid (show bs (prL 6 true (l.take (j + 1))) = bs (prL 6 true (l.take j)) ++ ⟨#[32, 45, 32]⟩ ++ (⟨#[40]⟩ ++ bs (prN l[j]) ++ ⟨#[41]⟩) from by rw [HE.out, if_neg (by omega)]; rfl)
              clear HE
              go_wp2_with fail
              refine HC.out.mono ?_
              rintro e x ⟨rfl, hx⟩
              have HX := Lib.hid (And.intro (HB.out.trans (hx.mono HB.out.size)) (HN.out.on hx))
              clear HC HB hx HN b0 b1' b2' b3
              obtain ⟨b0, -, -, b3⟩ := HX.out.2.cells
              go_wp2_with fail
              go_roundw
              case rel => exact ⟨j + 1, by omega, by go_num, by rw [HE2.out], HX⟩
              case measure => simp [intOf]; omega
            · have b2 : ∀ W, (Op.stringOp .add (bs (prL 6 true (l.take j))) (⟨#[40]⟩ ++ bs (prN l[j]) ++ ⟨#[41]⟩)).run Tryz.prog W = .ok (.string (bs (prL 6 true (l.take j)) ++ (⟨#[40]⟩ ++ bs (prN l[j]) ++ ⟨#[41]⟩))) W := fun W => run_string_add_sum _ _ _ (by rw [ByteArray.size_append, ByteArray.size_append, show (⟨#[40]⟩ : ByteArray).size = 1 from rfl, show (⟨#[41]⟩ : ByteArray).size = 1 from rfl]; omega)
              have HE2 := Lib.hid (show bs (prL 6 true (l.take (j + 1))) = bs (prL 6 true (l.take j)) ++ (⟨#[40]⟩ ++ bs (prN l[j]) ++ ⟨#[41]⟩) from by rw [HE.out, if_pos (by omega)])
              clear HE
              go_wp2_with fail
              refine HC.out.mono ?_
              rintro e x ⟨rfl, hx⟩
              have HX := Lib.hid (And.intro (HB.out.trans (hx.mono HB.out.size)) (HN.out.on hx))
              clear HC HB hx HN b0 b1' b2' b3
              obtain ⟨b0, -, -, b3⟩ := HX.out.2.cells
              go_wp2_with fail
              go_roundw
              case rel => exact ⟨j + 1, by omega, by go_num, by rw [HE2.out], HX⟩
              case measure => simp [intOf]; omega
          · skip
            have hnb : needsB 6 l[j].kind = false := by
              simp [needsB, hk]
            have e1 : tx 6 l[j] = bs (prN l[j]) := by rw [tx, hnb]; rfl
            have hcat := cat3 6 l j hlt
            rw [e1] at hcat
            have HE := Lib.hid hcat
            clear hcat e1 hnb
            by_cases hj0 : 0 < j
            · have b1 : ∀ W, (Op.stringOp .add (bs (prL 6 true (l.take j))) ⟨#[32, 45, 32]⟩).run Tryz.prog W = .ok (.string (bs (prL 6 true (l.take j)) ++ ⟨#[32, 45, 32]⟩)) W := fun W => run_string_add_sum _ _ _ (by rw [show (⟨#[32, 45, 32]⟩ : ByteArray).size = 3 from rfl]; omega)
              have b2 : ∀ W, (Op.stringOp .add (bs (prL 6 true (l.take j)) ++ ⟨#[32, 45, 32]⟩) (bs (prN l[j]))).run Tryz.prog W = .ok (.string (bs (prL 6 true (l.take j)) ++ ⟨#[32, 45, 32]⟩ ++ (bs (prN l[j])))) W := fun W => run_string_add_sum _ _ _ (by rw [ByteArray.size_append, show (⟨#[32, 45, 32]⟩ : ByteArray).size = 3 from rfl]; omega)
              have HE2 := Lib.hid (show bs (prL 6 true (l.take (j + 1))) = bs (prL 6 true (l.take j)) ++ ⟨#[32, 45, 32]⟩ ++ (bs (prN l[j])) from by rw [HE.out, if_neg (by omega)]; rfl)
              clear HE
              go_wp2_with fail
              refine HC.out.mono ?_
              rintro e x ⟨rfl, hx⟩
              have HX := Lib.hid (And.intro (HB.out.trans (hx.mono HB.out.size)) (HN.out.on hx))
              clear HC HB hx HN b0 b1' b2' b3
              obtain ⟨b0, -, -, b3⟩ := HX.out.2.cells
              go_wp2_with fail
              go_roundw
              case rel => exact ⟨j + 1, by omega, by go_num, by rw [HE2.out], HX⟩
              case measure => simp [intOf]; omega
            · have b2 : ∀ W, (Op.stringOp .add (bs (prL 6 true (l.take j))) (bs (prN l[j]))).run Tryz.prog W = .ok (.string (bs (prL 6 true (l.take j)) ++ (bs (prN l[j])))) W := fun W => run_string_add_sum _ _ _ (by omega)
              have HE2 := Lib.hid (show bs (prL 6 true (l.take (j + 1))) = bs (prL 6 true (l.take j)) ++ (bs (prN l[j])) from by rw [HE.out, if_pos (by omega)])
              clear HE
              go_wp2_with fail
              refine HC.out.mono ?_
              rintro e x ⟨rfl, hx⟩
              have HX := Lib.hid (And.intro (HB.out.trans (hx.mono HB.out.size)) (HN.out.on hx))
              clear HC HB hx HN b0 b1' b2' b3
              obtain ⟨b0, -, -, b3⟩ := HX.out.2.cells
              go_wp2_with fail
              go_roundw
              case rel => exact ⟨j + 1, by omega, by go_num, by rw [HE2.out], HX⟩
              case measure => simp [intOf]; omega
        · have hj' : j = l.length := by omega
          subst hj'
          rw [List.take_length]
          clear HI HK HG
          go_wp2_with fail
          go_ret
          exact ⟨by rw [HF.out]; rfl, HW.out.1⟩
end Cn
end Go.Proofs.YtdlfbikpniionaaGreatDoor
