/-
  Layer 5's document at nodes of up to 100000 parts: Size, Depth, Fits; and how many nodes a statement lets be. (Written out of XTrRefA and XTrSame, for seats that have NdMem; to be tried at stage 8's seat.)
-/
import Derived.Test.YticcldohgbpcbaaDoorRGood
namespace Go.Proofs.YticcldohgbpcbaaDoor
open Go.RowKit
namespace Gr
open Tr (Nd IsNode IsNodes Box4 node4 good goods size sizes depth depths size_pos size_kids sizes_len sizes_mem sizes_part sizes_take depth_kids depth_le depths_le depths_take errOf)
/-- What is left of so many behind so many more. -/
def rest (left s : Nat) : Int := if s ≤ left then (left : Int) - s else -1
theorem rest_add (left a b : Nat) (h : a ≤ left) : rest (left - a) b = rest left (a + b) := by
  unfold rest
  split <;> split <;> omega

set_option maxHeartbeats 1000000 in
set_option maxRecDepth 100000 in
theorem count_any : ∀ (k : Nat) (n : Nd) (v : Value) (w : World) (left : Nat), size n ≤ k → IsNode w n v → left ≤ 300 →
    Calls Tryd.prog 41 #[v, .int .i64 left] w fun e x => e = .returned (.int .i64 (rest left (size n))) ∧ Below w.heap.size w x := by
  intro k
  induction k with
  | zero => intro n v w left h; have := size_pos n; omega
  | succ k ih =>
    intro n v w left hk hn hl
    obtain ⟨ao, cap, vs, rfl, -, hks⟩ := hn.kids
    have hsz := size_kids n
    have HK := Lib.hid hks
    have HI := Lib.hid ih
    have HZ := Lib.hid (And.intro hsz hk)
    have h1 : ((left : Int) - 1) = rest left 1 := by unfold rest; split <;> omega
    have H1 := Lib.hid h1
    clear hn hks ih hsz hk h1
    generalize n.kids = l at *
    go_enter Tryd.func41, Tryd.ntmps41
    go_wp2_with fail
    go_loopw [1, 12] (fun r i wr => ∃ j : Nat, j ≤ l.length ∧ i = .int .i64 j ∧ r = .int .i64 (rest left (1 + sizes (l.take j))) ∧ Below w.heap.size w wr) (fun _ i _ => l.length - (intOf i).toNat)
    case atStart => exact ⟨0, by omega, rfl, by rw [H1.out]; rfl, (Below.refl _ _).alloc (Nat.le_refl _) _⟩
    case round =>
      obtain ⟨j, hj, rfl, rfl, hb⟩ := hrel
      have hp := sizes_part l j
      have HB := Lib.hid hb
      by_cases hlt : j < l.length
      · obtain ⟨g, q, sa, sc, hix, hg, c0, c1, c2, c3, hn⟩ := (HK.out.below hb).at cap hlt
        have ht := sizes_take hlt
        by_cases hneg : rest left (1 + sizes (l.take j)) < 0
        · have hfin : rest left (1 + sizes (l.take j)) = rest left (size n) := by
            have := HZ.out.1
            unfold rest at hneg ⊢
            split at hneg
            · omega
            · rw [if_neg (by assumption), if_neg (by omega)]
          have HF := Lib.hid hfin
          clear hp ht hfin hb hn
          generalize rest left (1 + sizes (l.take j)) = R at *
          go_wp2_with fail
          go_ret
          exact ⟨by rw [HF.out]; rfl, HB.out.alloc HB.out.size _⟩
        · have hle : 1 + sizes (l.take j) ≤ left := by
            unfold rest at hneg
            split at hneg
            · assumption
            · omega
          have he : rest left (1 + sizes (l.take j)) = ((left - (1 + sizes (l.take j)) : Nat) : Int) := by unfold rest; rw [if_pos hle]; omega
          have hC := HI.out l[j] _ (wr.alloc (.cells #[.int .i64 l[j].kind, .string l[j].ta, .string l[j].tb, .slice sa l[j].kids.length sc] 54)) (left - (1 + sizes (l.take j))) (by
            have := HZ.out.1
            have := HZ.out.2
            have := sizes_mem (List.getElem_mem hlt)
            omega) (hn.below ((Below.refl _ _).alloc (Nat.le_refl _) _)) (by omega)
          rw [rest_add _ _ _ hle, show 1 + sizes (l.take j) + size l[j] = 1 + sizes (l.take (j + 1)) by omega, ← he] at hC
          have hj3 : j ≤ 300 := by
            have := sizes_len (l.take j)
            rw [List.length_take] at this
            omega
          have HC := Lib.hid hC
          clear hp ht hb hn hC he hle
          generalize rest left (1 + sizes (l.take j)) = R at *
          go_wp2_with fail
          refine HC.out.mono ?_
          rintro e x ⟨rfl, hx⟩
          go_wp2_with fail
          go_roundw
          case rel => exact ⟨j + 1, by omega, by go_num, rfl, (HB.out.alloc HB.out.size _).trans (hx.mono (by have := HB.out.size; simp; omega))⟩
          case measure => simp [intOf]; omega
      · have hj' : j = l.length := by omega
        subst hj'
        have he : rest left (1 + sizes (l.take l.length)) = rest left (size n) := by rw [List.take_length, HZ.out.1]
        rw [he]
        go_wp2_with fail
        go_ret
        exact ⟨rfl, HB.out⟩

theorem few_any (n : Nd) (v : Value) (w : World) (hn : IsNode w n v) :
    Calls Tryd.prog 25 #[v] w fun e x => e = .returned (.bool (decide (size n ≤ 300))) ∧ Below w.heap.size w x := by
  obtain ⟨ao, cap, vs, rfl, -, hks⟩ := hn.kids
  have hC := count_any (size n) n _ (w.alloc (.cells #[.int .i64 n.kind, .string n.ta, .string n.tb, .slice ao n.kids.length cap] 54)) 300 (Nat.le_refl _) (hn.below ((Below.refl _ _).alloc (Nat.le_refl _) _)) (by omega)
  have HC := Lib.hid hC
  have hR : decide (0 ≤ rest 300 (size n)) = decide (size n ≤ 300) := by
    unfold rest
    split
    · rename_i h; simp only [h, decide_true]; simp; omega
    · rename_i h; simp [h]
  have HR := Lib.hid hR
  clear hn hks hC hR
  generalize rest 300 (size n) = R at *
  go_enter Tryd.func25, Tryd.ntmps25
  go_wp2_with fail
  refine HC.out.mono ?_
  rintro e x ⟨rfl, hx⟩
  go_wp2_with fail
  go_ret
  exact ⟨by rw [← HR.out]; rfl, ((Below.refl _ _).alloc (Nat.le_refl _) _).trans (hx.mono (by simp))⟩

set_option maxHeartbeats 1000000 in
set_option maxRecDepth 100000 in
theorem rsize_any : ∀ (k : Nat) (n : Nd) (v : Value) (w : World), size n ≤ k → size n ≤ 100000 → IsNode w n v →
    Calls Tryd.prog 44 #[v] w fun e x => e = .returned (.int .i64 (size n : Nat)) ∧ Below w.heap.size w x := by
  intro k
  induction k with
  | zero => intro n v w h; have := size_pos n; omega
  | succ k ih =>
    intro n v w hk hl hn
    obtain ⟨ao, cap, vs, rfl, -, hks⟩ := hn.kids
    have hsz := size_kids n
    have hlen := sizes_len n.kids
    have HK := Lib.hid hks
    have HI := Lib.hid ih
    have HZ := Lib.hid hsz
    have hlen3 : n.kids.length ≤ 100000 := by omega
    clear hn hks ih
    generalize n.kids = l at *
    go_enter Tryd.func44, Tryd.ntmps44
    go_wp2_with fail
    go_loopw [3, 8] (fun r i wr => ∃ j : Nat, j ≤ l.length ∧ i = .int .i64 j ∧ r = .int .i64 ((1 + sizes (l.take j) : Nat) : Int) ∧ wr.heap[w.heap.size]? = some (.cells #[.int .i64 n.kind, .string n.ta, .string n.tb, .slice ao l.length cap] 54 (0, 0)) ∧ Below w.heap.size w wr) (fun _ i _ => l.length - (intOf i).toNat)
    case atStart => exact ⟨0, by omega, rfl, rfl, heap_alloc_new w _, (Below.refl _ _).alloc (Nat.le_refl _) _⟩
    case round =>
      obtain ⟨j, hj, rfl, rfl, hh, hb⟩ := hrel
      have hp := sizes_part l j
      have HB := Lib.hid (And.intro hb hh)
      by_cases hlt : j < l.length
      · obtain ⟨g, q, sa, sc, hix, hg, c0, c1, c2, c3, hn⟩ := (HK.out.below hb).at cap hlt
        have ht := sizes_take hlt
        have b3 : wr.cell? ⟨w.heap.size, 3, none⟩ = some (.slice ao l.length cap) := by rw [Lib.cell_of_heap hh]; rfl
        have hp1 := sizes_part l (j + 1)
        have hm := sizes_mem (List.getElem_mem hlt)
        have hC := HI.out l[j] _ wr (by omega) (by omega) hn
        have he : (((1 + sizes (l.take j) : Nat) : Int) + (size l[j] : Nat)) = ((1 + sizes (l.take (j + 1)) : Nat) : Int) := by omega
        have hle : size l[j] ≤ 100000 := by omega
        have hle2 : 1 + sizes (l.take j) ≤ 100001 := by omega
        have HC := Lib.hid hC
        have HE := Lib.hid he
        clear hp ht hb hn hC hh hp1 hm hsz hk he
        generalize hS : 1 + sizes (l.take j) = S at *
        generalize hT : size l[j] = T at *
        clear hS hT
        go_wp2_with fail
        refine HC.out.mono ?_
        rintro e x ⟨rfl, hx⟩
        go_wp2_with fail
        go_roundw
        case rel => exact ⟨j + 1, by omega, by go_num, by rw [← HE.out], (hx.block _ (Array.getElem?_eq_some_iff.1 HB.out.2).1).trans HB.out.2, HB.out.1.trans (hx.mono HB.out.1.size)⟩
        case measure => simp [intOf]; omega
      · have hj' : j = l.length := by omega
        subst hj'
        have he : 1 + sizes (l.take l.length) = size n := by rw [List.take_length, HZ.out]
        rw [he]
        go_wp2_with fail
        go_ret
        exact ⟨rfl, HB.out.1⟩

set_option maxHeartbeats 1000000 in
set_option maxRecDepth 100000 in
theorem rdepth_any : ∀ (k : Nat) (n : Nd) (v : Value) (w : World), size n ≤ k → size n ≤ 100000 → IsNode w n v →
    Calls Tryd.prog 45 #[v] w fun e x => e = .returned (.int .i64 (depth n : Nat)) ∧ Below w.heap.size w x := by
  intro k
  induction k with
  | zero => intro n v w h; have := size_pos n; omega
  | succ k ih =>
    intro n v w hk hl hn
    obtain ⟨ao, cap, vs, rfl, -, hks⟩ := hn.kids
    have hsz := size_kids n
    have hlen := sizes_len n.kids
    have HK := Lib.hid hks
    have HI := Lib.hid ih
    have HZ := Lib.hid (depth_kids n)
    have hlen3 : n.kids.length ≤ 100000 := by omega
    have hdm : ∀ {m : Nd}, m ∈ n.kids → depth m ≤ 100000 := fun {m} hm => by
      have h1 := depth_le m
      have h2 := sizes_mem hm
      omega
    have hdt : ∀ j, depths (n.kids.take j) ≤ 100000 := fun j => by
      have := depths_le (n.kids.take j)
      have := sizes_part n.kids j
      omega
    have HD := Lib.hid (And.intro @hdm hdt)
    clear hn hks ih hdm hdt
    generalize n.kids = l at *
    go_enter Tryd.func45, Tryd.ntmps45
    go_wp2_with fail
    go_loopw [3, 8] (fun r i wr => ∃ j : Nat, j ≤ l.length ∧ i = .int .i64 j ∧ r = .int .i64 ((1 + depths (l.take j) : Nat) : Int) ∧ wr.heap[w.heap.size]? = some (.cells #[.int .i64 n.kind, .string n.ta, .string n.tb, .slice ao l.length cap] 54 (0, 0)) ∧ Below w.heap.size w wr) (fun _ i _ => l.length - (intOf i).toNat)
    case atStart => exact ⟨0, by omega, rfl, rfl, heap_alloc_new w _, (Below.refl _ _).alloc (Nat.le_refl _) _⟩
    case round =>
      obtain ⟨j, hj, rfl, rfl, hh, hb⟩ := hrel
      have HB := Lib.hid (And.intro hb hh)
      by_cases hlt : j < l.length
      · obtain ⟨g, q, sa, sc, hix, hg, c0, c1, c2, c3, hn⟩ := (HK.out.below hb).at cap hlt
        have ht := depths_take hlt
        have b3 : wr.cell? ⟨w.heap.size, 3, none⟩ = some (.slice ao l.length cap) := by rw [Lib.cell_of_heap hh]; rfl
        have hm := sizes_mem (List.getElem_mem hlt)
        have hC := HI.out l[j] _ wr (by omega) (by omega) hn
        have he : max (1 + depths (l.take j)) (1 + depth l[j]) = 1 + depths (l.take (j + 1)) := by omega
        have hle : depth l[j] ≤ 100000 := HD.out.1 (List.getElem_mem hlt)
        have hle2 : 1 + depths (l.take j) ≤ 100001 := by have := HD.out.2 j; omega
        have HC := Lib.hid hC
        have HE := Lib.hid he
        clear ht hb hn hC hh hm hsz hk he
        generalize hS : 1 + depths (l.take j) = S at *
        generalize hT : depth l[j] = T at *
        clear hS hT
        go_wp2_with fail
        refine HC.out.mono ?_
        rintro e x ⟨rfl, hx⟩
        go_wp2_with fail
        go_roundw
        case rel => exact ⟨j + 1, by omega, by go_num, by rw [← HE.out]; go_num, (hx.block _ (Array.getElem?_eq_some_iff.1 HB.out.2).1).trans HB.out.2, HB.out.1.trans (hx.mono HB.out.1.size)⟩
        case measure => simp [intOf]; omega
      · have hj' : j = l.length := by omega
        subst hj'
        have he : 1 + depths (l.take l.length) = depth n := by rw [List.take_length, HZ.out]
        rw [he]
        go_wp2_with fail
        go_ret
        exact ⟨rfl, HB.out.1⟩
set_option maxHeartbeats 2000000 in
set_option maxRecDepth 100000 in
theorem rfits_any (n : Nd) (v : Value) (w : World) (hz : size n ≤ 100000) (hn : IsNode w n v) :
    Calls Tryd.prog 27 #[v] w fun e x => e = .returned (.int .i64 (errOf n)) ∧ Below w.heap.size w x := by
  obtain ⟨ao, cap, vs, rfl, -, -⟩ := hn.kids
  have HG := Lib.hid (fun x (hb : Below w.heap.size w x) => rgood_any (size n) n _ x (Nat.le_refl _) hz (hn.below hb))
  have HS := Lib.hid (fun x (hb : Below w.heap.size w x) => rsize_any (size n) n _ x (Nat.le_refl _) hz (hn.below hb))
  have HD := Lib.hid (fun x (hb : Below w.heap.size w x) => rdepth_any (size n) n _ x (Nat.le_refl _) hz (hn.below hb))
  have hdz := depth_le n
  have hB0 : Below w.heap.size w (w.alloc (.cells #[.int .i64 n.kind, .string n.ta, .string n.tb, .slice ao n.kids.length cap] 54)) := (Below.refl _ _).alloc (Nat.le_refl _) _
  have H0 := Lib.hid hB0
  have N0 := Lib.hid (Box4.new w n.kind n.ta n.tb (.slice ao n.kids.length cap))
  clear hn hB0
  cases hg : good n with
  | false =>
    have HE := Lib.hid (show errOf n = 2 by rw [errOf, if_pos hg])
    rw [hg] at HG
    clear hg
    go_enter Tryd.func27, Tryd.ntmps27
    go_wp2_with fail
    refine (HG.out _ H0.out).mono ?_
    rintro e x ⟨rfl, hx⟩
    go_wp2_with fail
    go_ret
    exact ⟨by rw [HE.out]; rfl, H0.out.trans (hx.mono H0.out.size)⟩
  | true =>
    have he : errOf n = if 24 < size n then 3 else if 8 < depth n then 12 else 0 := by rw [errOf, if_neg (by rw [hg]; simp)]
    rw [hg] at HG
    clear hg
    by_cases h1 : 24 < size n
    · rw [if_pos h1] at he
      have HE := Lib.hid he
      clear he
      go_enter Tryd.func27, Tryd.ntmps27
      go_wp2_with fail
      refine (HG.out _ H0.out).mono ?_
      rintro e x ⟨rfl, hx⟩
      have h2 := H0.out.trans (hx.mono H0.out.size)
      have N1 := N0.out.on hx
      obtain ⟨b0, b1, b2, b3⟩ := N1.cells
      have H2 := Lib.hid h2
      clear h2 hx
      go_wp2_with fail
      refine (HS.out _ H2.out).mono ?_
      rintro e y ⟨rfl, hy⟩
      go_wp2_with fail
      go_ret
      exact ⟨by rw [HE.out]; rfl, H2.out.trans (hy.mono H2.out.size)⟩
    · rw [if_neg h1] at he
      by_cases h2 : 8 < depth n
      all_goals
        simp only [h2, if_true, if_false] at he
        have HE := Lib.hid he
        clear he
        go_enter Tryd.func27, Tryd.ntmps27
        go_wp2_with fail
        refine (HG.out _ H0.out).mono ?_
        rintro e x ⟨rfl, hx⟩
        have h2 := H0.out.trans (hx.mono H0.out.size)
        have N1 := N0.out.on hx
        obtain ⟨b0, b1, b2, b3⟩ := N1.cells
        have H2 := Lib.hid (And.intro h2 N1)
        clear h2 hx N1
        go_wp2_with fail
        refine (HS.out _ H2.out.1).mono ?_
        rintro e y ⟨rfl, hy⟩
        have h3 := H2.out.1.trans (hy.mono H2.out.1.size)
        clear b0 b1 b2 b3
        obtain ⟨b0, b1, b2, b3⟩ := (H2.out.2.on hy).cells
        have H3 := Lib.hid h3
        clear h3 hy
        go_wp2_with fail
        refine (HD.out _ H3.out).mono ?_
        rintro e z ⟨rfl, hz⟩
        go_wp2_with fail
        go_ret
        exact ⟨by rw [HE.out]; rfl, H3.out.trans (hz.mono H3.out.size)⟩
end Gr
end Go.Proofs.YticcldohgbpcbaaDoor
