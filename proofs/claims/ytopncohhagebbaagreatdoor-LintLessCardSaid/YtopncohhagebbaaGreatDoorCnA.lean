/-
  Layer 8 (canon): spare (how many nodes are left over), expression (a node's, if it is one), bound (how tight one is).
-/
import Derived.Test.YtopncohhagebbaaGreatDoorRgN
import Derived.Test.YtopncohhagebbaaGreatDoorTrBuildB
import Derived.Test.YtopncohhagebbaaGreatDoorTgR
namespace Go.Proofs.YtopncohhagebbaaGreatDoor
open Go.RowKit
namespace Cn
open Tr (Nd IsNode IsNodes Box4 node4 good goods size sizes depth depths size_pos size_kids sizes_len sizes_mem sizes_part sizes_take errOf IsExpr IsExprs fresh_one two)
open Gr (rest rest_add)

set_option maxHeartbeats 1000000 in
set_option maxRecDepth 100000 in
theorem spare_any : ∀ (k : Nat) (n : Nd) (v : Value) (w : World) (left : Nat), size n ≤ k → IsNode w n v → left ≤ 300 →
    Calls Tryz.prog 164 #[v, .int .i64 left] w fun e x => e = .returned (.int .i64 (rest left (size n))) ∧ Below w.heap.size w x := by
  intro k
  induction k with
  | zero => intro n v w left h; have := size_pos n; omega
  | succ k ih =>
    intro n v w left hk hn hl
    obtain ⟨ao, cap, vs, rfl, -, hks⟩ := hn.kids
    have hsz := size_kids n
    have HK := Lib.hid hks
    have HI := Lib.hid ih
    have HZ := Lib.hid (And.intro hsz hk)
    have h1 : ((left : Int) - 1) = rest left 1 := by unfold rest; split <;> omega
    have H1 := Lib.hid h1
    clear hn hks ih hsz hk h1
    generalize n.kids = l at *
    go_enter Tryz.func164, Tryz.ntmps164
    go_wp2_with fail
    go_loopw [1, 12] (fun r i wr => ∃ j : Nat, j ≤ l.length ∧ i = .int .i64 j ∧ r = .int .i64 (rest left (1 + sizes (l.take j))) ∧ Below w.heap.size w wr) (fun _ i _ => l.length - (intOf i).toNat)
    case atStart => exact ⟨0, by omega, rfl, by rw [H1.out]; rfl, (Below.refl _ _).alloc (Nat.le_refl _) _⟩
    case round =>
      obtain ⟨j, hj, rfl, rfl, hb⟩ := hrel
      have hp := sizes_part l j
      have HB := Lib.hid hb
      by_cases hlt : j < l.length
      · obtain ⟨g, q, sa, sc, hix, hg, c0, c1, c2, c3, hn⟩ := (HK.out.below hb).at cap hlt
        have ht := sizes_take hlt
        by_cases hneg : rest left (1 + sizes (l.take j)) < 0
        · have hfin : rest left (1 + sizes (l.take j)) = rest left (size n) := by
            have := HZ.out.1
            unfold rest at hneg ⊢
            split at hneg
            · omega
            · rw [if_neg (by assumption), if_neg (by omega)]
          have HF := Lib.hid hfin
          clear hp ht hfin hb hn
          generalize rest left (1 + sizes (l.take j)) = R at *
          go_wp2_with fail
          go_ret
          exact ⟨by rw [HF.out]; rfl, HB.out.alloc HB.out.size _⟩
        · have hle : 1 + sizes (l.take j) ≤ left := by
            unfold rest at hneg
            split at hneg
            · assumption
            · omega
          have he : rest left (1 + sizes (l.take j)) = ((left - (1 + sizes (l.take j)) : Nat) : Int) := by unfold rest; rw [if_pos hle]; omega
          have hC := HI.out l[j] _ (wr.alloc (.cells #[.int .i64 l[j].kind, .string l[j].ta, .string l[j].tb, .slice sa l[j].kids.length sc] 47)) (left - (1 + sizes (l.take j))) (by
            have := HZ.out.1
            have := HZ.out.2
            have := sizes_mem (List.getElem_mem hlt)
            omega) (hn.below ((Below.refl _ _).alloc (Nat.le_refl _) _)) (by omega)
          rw [rest_add _ _ _ hle, show 1 + sizes (l.take j) + size l[j] = 1 + sizes (l.take (j + 1)) by omega, ← he] at hC
          have hj3 : j ≤ 300 := by
            have := sizes_len (l.take j)
            rw [List.length_take] at this
            omega
          have HC := Lib.hid hC
          clear hp ht hb hn hC he hle
          generalize rest left (1 + sizes (l.take j)) = R at *
          go_wp2_with fail
          refine HC.out.mono ?_
          rintro e x ⟨rfl, hx⟩
          go_wp2_with fail
          go_roundw
          case rel => exact ⟨j + 1, by omega, by go_num, rfl, (HB.out.alloc HB.out.size _).trans (hx.mono (by have := HB.out.size; simp; omega))⟩
          case measure => simp [intOf]; omega
      · have hj' : j = l.length := by omega
        subst hj'
        have he : rest left (1 + sizes (l.take l.length)) = rest left (size n) := by rw [List.take_length, HZ.out.1]
        rw [he]
        go_wp2_with fail
        go_ret
        exact ⟨rfl, HB.out⟩

set_option maxHeartbeats 1000000 in
set_option maxRecDepth 100000 in
theorem expression_any (n : Nd) (v : Value) (w : World) (hn : IsNode w n v) :
    Calls Tryz.prog 131 #[v] w fun e x => Below w.heap.size w x ∧ ((errOf n ≠ 0 ∧ e = .returned (two .nilIface (.bool false))) ∨ (errOf n = 0 ∧ ∃ u, e = .returned (two u (.bool true)) ∧ IsExpr w.heap.size x n u)) := by
  obtain ⟨ao, cap, vs, rfl, -, -⟩ := hn.kids
  have hC := fun x (hb : Below w.heap.size w x) => spare_any (size n) n _ x 24 (Nat.le_refl _) (hn.below hb) (by omega)
  have hB := fun (h24 : size n ≤ 24) x (hb : Below w.heap.size w x) => Tr.Build_any n _ x (by omega) (hn.below hb)
  have HC := Lib.hid hC
  have HB := Lib.hid hB
  have H0 := Lib.hid (And.intro (fresh_one w (.cells #[.int .i64 n.kind, .string n.ta, .string n.tb, .slice ao n.kids.length cap] 47)) (Box4.new w n.kind n.ta n.tb (.slice ao n.kids.length cap)))
  obtain ⟨b0, b1, b2, b3⟩ := H0.out.2.cells
  clear hn hC hB
  by_cases h24 : size n ≤ 24
  · have hR : rest 24 (size n) = ((24 - size n : Nat) : Int) := by unfold rest; rw [if_pos h24]; omega
    have hlt : decide (((24 - size n : Nat) : Int) < 0) = false := by simp
    rw [hR] at HC
    have HB2 := Lib.hid (HB.out h24)
    clear HB hR
    generalize (24 - size n : Nat) = R at *
    go_enter Tryz.func131, Tryz.ntmps131
    go_wp2_with fail
    refine (HC.out _ H0.out.1).mono ?_
    rintro e x ⟨rfl, hx⟩
    have H1 := Lib.hid (And.intro (H0.out.1.trans (hx.mono H0.out.1.size)) (H0.out.2.on hx))
    clear hx b0 b1 b2 b3
    obtain ⟨b0, b1, b2, b3⟩ := H1.out.2.cells
    go_wp2_with fail
    refine (HB2.out _ H1.out.1).mono ?_
    rintro e y ⟨hy, h⟩
    rcases h with ⟨he, rfl⟩ | ⟨he, u, rfl, hu⟩
    · have HE := Lib.hid (And.intro he (H1.out.1.trans (hy.mono H1.out.1.size)))
      have he0 : (errOf n == 0) = false := beq_eq_false_iff_ne.2 he
      clear he hy
      go_wp2_with fail
      go_ret2
      exact ⟨HE.out.2, .inl ⟨HE.out.1, rfl⟩⟩
    · obtain ⟨ut, uv, rfl⟩ := hu.iface
      have HE := Lib.hid (And.intro he (And.intro (H1.out.1.trans (hy.mono H1.out.1.size)) (hu.mono H1.out.1.size)))
      clear he hy hu
      go_wp2_with fail
      go_ret2
      exact ⟨HE.out.2.1, .inr ⟨HE.out.1, _, rfl, HE.out.2.2⟩⟩
  · have hR : rest 24 (size n) = -1 := by unfold rest; rw [if_neg h24]
    rw [hR] at HC
    have he : errOf n ≠ 0 := by
      rcases Tr.err_cases n with ⟨he, -⟩ | ⟨he, -⟩ | ⟨he, -⟩ | ⟨-, -, h, -⟩
      · omega
      · omega
      · omega
      · exact absurd h h24
    have HE := Lib.hid he
    clear HB hR he
    go_enter Tryz.func131, Tryz.ntmps131
    go_wp2_with fail
    refine (HC.out _ H0.out.1).mono ?_
    rintro e x ⟨rfl, hx⟩
    go_wp2_with fail
    go_ret2
    exact ⟨H0.out.1.trans (hx.mono H0.out.1.size), .inl ⟨HE.out, rfl⟩⟩

def tight (k : Int) : Int := if k = 4 then 1 else if k = 5 then 2 else if k = 6 then 3 else 4
end Cn
end Go.Proofs.YtopncohhagebbaaGreatDoor
