/-
  Layer 5 (tract): how many nodes a statement lets be; the document's Word, Size, Depth.
  Layer 5 (tract): the document's Refs and Direct.
  Layer 5 (tract): the document's Refs.
  Layer 5 (tract): a reference in a list of them.
-/
import Derived.Test.YtopncohhagebbaaGreatDoorTrMem
import Derived.Test.YtopncohhagebbaaGreatDoorRgN
import Derived.Test.YtopncohhagebbaaGreatDoorTgR
import Derived.Test.YtopncohhagebbaaGreatDoorMgMem
namespace Go.Proofs.YtopncohhagebbaaGreatDoor
open Go.RowKit
namespace Tr

def rest (left s : Nat) : Int := if s ≤ left then (left : Int) - s else -1
theorem rest_add (left a b : Nat) (h : a ≤ left) : rest (left - a) b = rest left (a + b) := by
  unfold rest
  split <;> split <;> omega

set_option maxHeartbeats 1000000 in
set_option maxRecDepth 100000 in
theorem count_any : ∀ (k : Nat) (n : Nd) (v : Value) (w : World) (left : Nat), size n ≤ k → IsNode w n v → left ≤ 300 →
    Calls Tryz.prog 39 #[v, .int .i64 left] w fun e x => e = .returned (.int .i64 (rest left (size n))) ∧ Below w.heap.size w x := by
  intro k
  induction k with
  | zero => intro n v w left h; have := size_pos n; omega
  | succ k ih =>
    intro n v w left hk hn hl
    obtain ⟨ao, cap, vs, rfl, -, hks⟩ := hn.kids
    have hsz := size_kids n
    have HK := Lib.hid hks
    have HI := Lib.hid ih
    have HZ := Lib.hid (And.intro hsz hk)
    have h1 : ((left : Int) - 1) = rest left 1 := by unfold rest; split <;> omega
    have H1 := Lib.hid h1
    clear hn hks ih hsz hk h1
    generalize n.kids = l at *
    go_enter Tryz.func39, Tryz.ntmps39
    go_wp2_with fail
    go_loopw [1, 12] (fun r i wr => ∃ j : Nat, j ≤ l.length ∧ i = .int .i64 j ∧ r = .int .i64 (rest left (1 + sizes (l.take j))) ∧ Below w.heap.size w wr) (fun _ i _ => l.length - (intOf i).toNat)
    case atStart => exact ⟨0, by omega, rfl, by rw [H1.out]; rfl, (Below.refl _ _).alloc (Nat.le_refl _) _⟩
    case round =>
      obtain ⟨j, hj, rfl, rfl, hb⟩ := hrel
      have hp := sizes_part l j
      have HB := Lib.hid hb
      by_cases hlt : j < l.length
      · obtain ⟨g, q, sa, sc, hix, hg, c0, c1, c2, c3, hn⟩ := (HK.out.below hb).at cap hlt
        have ht := sizes_take hlt
        by_cases hneg : rest left (1 + sizes (l.take j)) < 0
        · have hfin : rest left (1 + sizes (l.take j)) = rest left (size n) := by
            have := HZ.out.1
            unfold rest at hneg ⊢
            split at hneg
            · omega
            · rw [if_neg (by assumption), if_neg (by omega)]
          have HF := Lib.hid hfin
          clear hp ht hfin hb hn
          generalize rest left (1 + sizes (l.take j)) = R at *
          go_wp2_with fail
          go_ret
          exact ⟨by rw [HF.out]; rfl, HB.out.alloc HB.out.size _⟩
        · have hle : 1 + sizes (l.take j) ≤ left := by
            unfold rest at hneg
            split at hneg
            · assumption
            · omega
          have he : rest left (1 + sizes (l.take j)) = ((left - (1 + sizes (l.take j)) : Nat) : Int) := by unfold rest; rw [if_pos hle]; omega
          have hC := HI.out l[j] _ (wr.alloc (.cells #[.int .i64 l[j].kind, .string l[j].ta, .string l[j].tb, .slice sa l[j].kids.length sc] 47)) (left - (1 + sizes (l.take j))) (by
            have := HZ.out.1
            have := HZ.out.2
            have := sizes_mem (List.getElem_mem hlt)
            omega) (hn.below ((Below.refl _ _).alloc (Nat.le_refl _) _)) (by omega)
          rw [rest_add _ _ _ hle, show 1 + sizes (l.take j) + size l[j] = 1 + sizes (l.take (j + 1)) by omega, ← he] at hC
          have hj3 : j ≤ 300 := by
            have := sizes_len (l.take j)
            rw [List.length_take] at this
            omega
          have HC := Lib.hid hC
          clear hp ht hb hn hC he hle
          generalize rest left (1 + sizes (l.take j)) = R at *
          go_wp2_with fail
          refine HC.out.mono ?_
          rintro e x ⟨rfl, hx⟩
          go_wp2_with fail
          go_roundw
          case rel => exact ⟨j + 1, by omega, by go_num, rfl, (HB.out.alloc HB.out.size _).trans (hx.mono (by have := HB.out.size; simp; omega))⟩
          case measure => simp [intOf]; omega
      · have hj' : j = l.length := by omega
        subst hj'
        have he : rest left (1 + sizes (l.take l.length)) = rest left (size n) := by rw [List.take_length, HZ.out.1]
        rw [he]
        go_wp2_with fail
        go_ret
        exact ⟨rfl, HB.out⟩

theorem few_any (n : Nd) (v : Value) (w : World) (hn : IsNode w n v) :
    Calls Tryz.prog 14 #[v] w fun e x => e = .returned (.bool (decide (size n ≤ 300))) ∧ Below w.heap.size w x := by
  obtain ⟨ao, cap, vs, rfl, -, hks⟩ := hn.kids
  have hC := count_any (size n) n _ (w.alloc (.cells #[.int .i64 n.kind, .string n.ta, .string n.tb, .slice ao n.kids.length cap] 47)) 300 (Nat.le_refl _) (hn.below ((Below.refl _ _).alloc (Nat.le_refl _) _)) (by omega)
  have HC := Lib.hid hC
  have hR : decide (0 ≤ rest 300 (size n)) = decide (size n ≤ 300) := by
    unfold rest
    split
    · rename_i h; simp only [h, decide_true]; simp; omega
    · rename_i h; simp [h]
  have HR := Lib.hid hR
  clear hn hks hC hR
  generalize rest 300 (size n) = R at *
  go_enter Tryz.func14, Tryz.ntmps14
  go_wp2_with fail
  refine HC.out.mono ?_
  rintro e x ⟨rfl, hx⟩
  go_wp2_with fail
  go_ret
  exact ⟨by rw [← HR.out]; rfl, ((Below.refl _ _).alloc (Nat.le_refl _) _).trans (hx.mono (by simp))⟩

set_option maxHeartbeats 1000000 in
set_option maxRecDepth 100000 in
theorem rsize_any : ∀ (k : Nat) (n : Nd) (v : Value) (w : World), size n ≤ k → size n ≤ 300 → IsNode w n v →
    Calls Tryz.prog 148 #[v] w fun e x => e = .returned (.int .i64 (size n : Nat)) ∧ Below w.heap.size w x := by
  intro k
  induction k with
  | zero => intro n v w h; have := size_pos n; omega
  | succ k ih =>
    intro n v w hk hl hn
    obtain ⟨ao, cap, vs, rfl, -, hks⟩ := hn.kids
    have hsz := size_kids n
    have hlen := sizes_len n.kids
    have HK := Lib.hid hks
    have HI := Lib.hid ih
    have HZ := Lib.hid hsz
    have hlen3 : n.kids.length ≤ 300 := by omega
    clear hn hks ih
    generalize n.kids = l at *
    go_enter Tryz.func148, Tryz.ntmps148
    go_wp2_with fail
    go_loopw [3, 8] (fun r i wr => ∃ j : Nat, j ≤ l.length ∧ i = .int .i64 j ∧ r = .int .i64 ((1 + sizes (l.take j) : Nat) : Int) ∧ wr.heap[w.heap.size]? = some (.cells #[.int .i64 n.kind, .string n.ta, .string n.tb, .slice ao l.length cap] 47 (0, 0)) ∧ Below w.heap.size w wr) (fun _ i _ => l.length - (intOf i).toNat)
    case atStart => exact ⟨0, by omega, rfl, rfl, heap_alloc_new w _, (Below.refl _ _).alloc (Nat.le_refl _) _⟩
    case round =>
      obtain ⟨j, hj, rfl, rfl, hh, hb⟩ := hrel
      have hp := sizes_part l j
      have HB := Lib.hid (And.intro hb hh)
      by_cases hlt : j < l.length
      · obtain ⟨g, q, sa, sc, hix, hg, c0, c1, c2, c3, hn⟩ := (HK.out.below hb).at cap hlt
        have ht := sizes_take hlt
        have b3 : wr.cell? ⟨w.heap.size, 3, none⟩ = some (.slice ao l.length cap) := by rw [Lib.cell_of_heap hh]; rfl
        have hp1 := sizes_part l (j + 1)
        have hm := sizes_mem (List.getElem_mem hlt)
        have hC := HI.out l[j] _ wr (by omega) (by omega) hn
        have he : (((1 + sizes (l.take j) : Nat) : Int) + (size l[j] : Nat)) = ((1 + sizes (l.take (j + 1)) : Nat) : Int) := by omega
        have hle : size l[j] ≤ 300 := by omega
        have hle2 : 1 + sizes (l.take j) ≤ 301 := by omega
        have HC := Lib.hid hC
        have HE := Lib.hid he
        clear hp ht hb hn hC hh hp1 hm hsz hk he
        generalize hS : 1 + sizes (l.take j) = S at *
        generalize hT : size l[j] = T at *
        clear hS hT
        go_wp2_with fail
        refine HC.out.mono ?_
        rintro e x ⟨rfl, hx⟩
        go_wp2_with fail
        go_roundw
        case rel => exact ⟨j + 1, by omega, by go_num, by rw [← HE.out], (hx.block _ (Array.getElem?_eq_some_iff.1 HB.out.2).1).trans HB.out.2, HB.out.1.trans (hx.mono HB.out.1.size)⟩
        case measure => simp [intOf]; omega
      · have hj' : j = l.length := by omega
        subst hj'
        have he : 1 + sizes (l.take l.length) = size n := by rw [List.take_length, HZ.out]
        rw [he]
        go_wp2_with fail
        go_ret
        exact ⟨rfl, HB.out.1⟩

set_option maxHeartbeats 1000000 in
set_option maxRecDepth 100000 in
theorem rdepth_any : ∀ (k : Nat) (n : Nd) (v : Value) (w : World), size n ≤ k → size n ≤ 300 → IsNode w n v →
    Calls Tryz.prog 149 #[v] w fun e x => e = .returned (.int .i64 (depth n : Nat)) ∧ Below w.heap.size w x := by
  intro k
  induction k with
  | zero => intro n v w h; have := size_pos n; omega
  | succ k ih =>
    intro n v w hk hl hn
    obtain ⟨ao, cap, vs, rfl, -, hks⟩ := hn.kids
    have hsz := size_kids n
    have hlen := sizes_len n.kids
    have HK := Lib.hid hks
    have HI := Lib.hid ih
    have HZ := Lib.hid (depth_kids n)
    have hlen3 : n.kids.length ≤ 300 := by omega
    have hdm : ∀ {m : Nd}, m ∈ n.kids → depth m ≤ 300 := fun {m} hm => by
      have h1 := depth_le m
      have h2 := sizes_mem hm
      omega
    have hdt : ∀ j, depths (n.kids.take j) ≤ 300 := fun j => by
      have := depths_le (n.kids.take j)
      have := sizes_part n.kids j
      omega
    have HD := Lib.hid (And.intro @hdm hdt)
    clear hn hks ih hdm hdt
    generalize n.kids = l at *
    go_enter Tryz.func149, Tryz.ntmps149
    go_wp2_with fail
    go_loopw [3, 8] (fun r i wr => ∃ j : Nat, j ≤ l.length ∧ i = .int .i64 j ∧ r = .int .i64 ((1 + depths (l.take j) : Nat) : Int) ∧ wr.heap[w.heap.size]? = some (.cells #[.int .i64 n.kind, .string n.ta, .string n.tb, .slice ao l.length cap] 47 (0, 0)) ∧ Below w.heap.size w wr) (fun _ i _ => l.length - (intOf i).toNat)
    case atStart => exact ⟨0, by omega, rfl, rfl, heap_alloc_new w _, (Below.refl _ _).alloc (Nat.le_refl _) _⟩
    case round =>
      obtain ⟨j, hj, rfl, rfl, hh, hb⟩ := hrel
      have HB := Lib.hid (And.intro hb hh)
      by_cases hlt : j < l.length
      · obtain ⟨g, q, sa, sc, hix, hg, c0, c1, c2, c3, hn⟩ := (HK.out.below hb).at cap hlt
        have ht := depths_take hlt
        have b3 : wr.cell? ⟨w.heap.size, 3, none⟩ = some (.slice ao l.length cap) := by rw [Lib.cell_of_heap hh]; rfl
        have hm := sizes_mem (List.getElem_mem hlt)
        have hC := HI.out l[j] _ wr (by omega) (by omega) hn
        have he : max (1 + depths (l.take j)) (1 + depth l[j]) = 1 + depths (l.take (j + 1)) := by omega
        have hle : depth l[j] ≤ 300 := HD.out.1 (List.getElem_mem hlt)
        have hle2 : 1 + depths (l.take j) ≤ 301 := by have := HD.out.2 j; omega
        have HC := Lib.hid hC
        have HE := Lib.hid he
        clear ht hb hn hC hh hm hsz hk he
        generalize hS : 1 + depths (l.take j) = S at *
        generalize hT : depth l[j] = T at *
        clear hS hT
        go_wp2_with fail
        refine HC.out.mono ?_
        rintro e x ⟨rfl, hx⟩
        go_wp2_with fail
        go_roundw
        case rel => exact ⟨j + 1, by omega, by go_num, by rw [← HE.out]; go_num, (hx.block _ (Array.getElem?_eq_some_iff.1 HB.out.2).1).trans HB.out.2, HB.out.1.trans (hx.mono HB.out.1.size)⟩
        case measure => simp [intOf]; omega
      · have hj' : j = l.length := by omega
        subst hj'
        have he : 1 + depths (l.take l.length) = depth n := by rw [List.take_length, HZ.out]
        rw [he]
        go_wp2_with fail
        go_ret
        exact ⟨rfl, HB.out.1⟩
end Tr
end Go.Proofs.YtopncohhagebbaaGreatDoor

namespace Go.Proofs.YtopncohhagebbaaGreatDoor
open Go.RowKit
namespace Tr
open Who (wp_region_class quiet_of)

set_option maxHeartbeats 4000000 in
set_option maxRecDepth 100000 in
theorem rdirect_any : ∀ (q : Nat) (n : Nd) (want own : Bool) (v : Value) (w : World), size n ≤ q → size n ≤ 300 → IsNode w n v →
    Calls Tryz.prog 36 #[v, .bool want, .bool own] w fun e x => e = .returned (.bool (direct n want own)) ∧ Below w.heap.size w x := by
  intro q
  induction q with
  | zero => intro n want own v w h; have := size_pos n; omega
  | succ q ih =>
    intro n want own v w hk hl hn
    obtain ⟨ao, cap, vs, rfl, -, hks⟩ := hn.kids
    cases n with
    | mk k a b l =>
    have hll : l.length ≤ 300 := by rw [size] at hl; have := sizes_len l; omega
    have HI := Lib.hid (show ∀ n ∈ l, ∀ want own v w, IsNode w n v → Calls Tryz.prog 36 #[v, .bool want, .bool own] w fun e x => e = .returned (.bool (direct n want own)) ∧ Below w.heap.size w x from
      fun n hn want own v w => ih n want own v w (by rw [size] at hk; have := sizes_mem hn; omega) (by rw [size] at hl; have := sizes_mem hn; omega))
    have HK : Hid (Kids w l ao vs) := hks
    clear hn ih hk hl hks
    show Calls _ _ #[node4 k a b (.slice ao l.length cap), _, _] _ _
    have HD := Lib.hid (show direct (.mk k a b l) want own = (directs k l 0 want own || (k == 1 && want == own)) by rw [direct])
    go_enter Tryz.func36, Tryz.ntmps36
    go_wp2_with fail
    go_loopw [11] (fun i wr => ∃ j : Nat, j ≤ l.length ∧ i = .int .i64 j ∧ Hid (directs k (l.take j) 0 want own = false) ∧ Below w.heap.size w wr ∧ Box4 w.heap.size k a b (.slice ao l.length cap) wr) (fun i _ => l.length - (intOf i).toNat)
    case atStart => exact ⟨0, by omega, rfl, rfl, (Below.refl _ _).alloc (Nat.le_refl _) _, Box4.new w _ _ _ _⟩
    case round =>
      obtain ⟨j, hj, rfl, HG, hb, hbx⟩ := hrel
      have HR := Lib.hid (And.intro hb hbx)
      by_cases hlt : j < l.length
      · obtain ⟨g, q, sa, sc, hix, hg, c0, c1, c2, c3, hn⟩ := HK.out.at cap hlt
        have htk := directs_take k want own hlt
        rw [HG.out, Bool.false_or] at htk
        have hC := fun x (hx : Below w.heap.size w x) => HI.out l[j] (List.getElem_mem hlt) want (own != flip k j) _ x (hn.below hx)
        rw [← htk] at hC
        have HC := Lib.hid hC
        have HN := Lib.hid (show ∀ x, Below w.heap.size w x → x.cell? ⟨g, q, none⟩ = some (.int .i64 l[j].kind) ∧ x.cell? ⟨g, q + 1, none⟩ = some (.string l[j].ta) ∧ x.cell? ⟨g, q + 2, none⟩ = some (.string l[j].tb) ∧ x.cell? ⟨g, q + 3, none⟩ = some (.slice sa l[j].kids.length sc) from
          fun x hx => ⟨(hx.cell (p := ⟨g, q, none⟩) hg).trans c0, (hx.cell (p := ⟨g, q + 1, none⟩) hg).trans c1, (hx.cell (p := ⟨g, q + 2, none⟩) hg).trans c2, (hx.cell (p := ⟨g, q + 3, none⟩) hg).trans c3⟩)
        have hj3 : j ≤ 300 := by omega
        clear hb hbx c0 c1 c2 c3 hn hg hC htk
        have three : (k ≠ 6) ∨ (k = 6 ∧ j = 1) ∨ (k = 6 ∧ j ≠ 1) := by omega
        cases hdj : directs k (l.take (j + 1)) 0 want own with
        | true =>
          have HF := Lib.hid hdj
          rw [hdj] at HC
          clear hdj
          rcases three with h3 | h3 | h3
          · have e6 : (k == 6) = false := by simpa using h3
            rw [show flip k j = false by rw [flip, e6, Bool.false_and], Bool.bne_false] at HC
            clear h3
            go_wp2_with fail
            refine wp_region_class (C := fun x => Below w.heap.size w x ∧ Box4 w.heap.size k a b (.slice ao l.length cap) x) (by kernel_rfl) (by kernel_rfl) ⟨HR.out.1.drew, HR.out.2⟩ ?_
            repeat (first
              | go_big_quiet_skip
              | (go_big_quiet_want
                 apply quiet_of
                 · intro x hx
                   obtain ⟨a0, -, -, a3⟩ := hx.2.cells
                   obtain ⟨c0, c1, c2, c3⟩ := HN.out x hx.1
                   first
                     | (go_simp; rfl)
                     | (clear a0 a3 c0 c1 c2 c3; go_simp; go_at_call 36; refine (HC.out x hx.1).mono ?_; rintro e y ⟨rfl, hy⟩; exact ⟨rfl, hx.1.trans (hy.mono hx.1.size), hx.2.on hy⟩)
                 simp only [Act.put, List.setIfInBounds_toArray, List.set_cons_zero, List.set_cons_succ]
                 go_big_quiet_on))
            refine wpQuiet_nil ?_
            intro x hx
            have HX := Lib.hid hx
            clear hx HR HC HN
            have HE := Lib.hid (directs_part k want own HF.out)
            go_wp2_with fail
            go_ret
            exact ⟨by rw [HD.out, HE.out]; rfl, HX.out.1⟩
          · obtain ⟨rfl, h3⟩ := h3
            have e1 : ((j : Int) == 1) = true := by simp; omega
            rw [show flip 6 j = true by rw [flip]; simp; omega, Bool.bne_true] at HC
            clear h3
            go_wp2_with fail
            refine wp_region_class (C := fun x => Below w.heap.size w x ∧ Box4 w.heap.size 6 a b (.slice ao l.length cap) x) (by kernel_rfl) (by kernel_rfl) ⟨HR.out.1.drew, HR.out.2⟩ ?_
            repeat (first
              | go_big_quiet_skip
              | (go_big_quiet_want
                 apply quiet_of
                 · intro x hx
                   obtain ⟨a0, -, -, a3⟩ := hx.2.cells
                   obtain ⟨c0, c1, c2, c3⟩ := HN.out x hx.1
                   first
                     | (go_simp; rfl)
                     | (clear a0 a3 c0 c1 c2 c3; go_simp; go_at_call 36; refine (HC.out x hx.1).mono ?_; rintro e y ⟨rfl, hy⟩; exact ⟨rfl, hx.1.trans (hy.mono hx.1.size), hx.2.on hy⟩)
                 simp only [Act.put, List.setIfInBounds_toArray, List.set_cons_zero, List.set_cons_succ]
                 go_big_quiet_on))
            refine wpQuiet_nil ?_
            intro x hx
            have HX := Lib.hid hx
            clear hx HR HC HN
            have HE := Lib.hid (directs_part 6 want own HF.out)
            go_wp2_with fail
            go_ret
            exact ⟨by rw [HD.out, HE.out]; rfl, HX.out.1⟩
          · obtain ⟨rfl, h3⟩ := h3
            have e1 : ((j : Int) == 1) = false := by simp; omega
            rw [show flip 6 j = false by rw [flip]; simp; omega, Bool.bne_false] at HC
            clear h3
            go_wp2_with fail
            refine wp_region_class (C := fun x => Below w.heap.size w x ∧ Box4 w.heap.size 6 a b (.slice ao l.length cap) x) (by kernel_rfl) (by kernel_rfl) ⟨HR.out.1.drew, HR.out.2⟩ ?_
            repeat (first
              | go_big_quiet_skip
              | (go_big_quiet_want
                 apply quiet_of
                 · intro x hx
                   obtain ⟨a0, -, -, a3⟩ := hx.2.cells
                   obtain ⟨c0, c1, c2, c3⟩ := HN.out x hx.1
                   first
                     | (go_simp; rfl)
                     | (clear a0 a3 c0 c1 c2 c3; go_simp; go_at_call 36; refine (HC.out x hx.1).mono ?_; rintro e y ⟨rfl, hy⟩; exact ⟨rfl, hx.1.trans (hy.mono hx.1.size), hx.2.on hy⟩)
                 simp only [Act.put, List.setIfInBounds_toArray, List.set_cons_zero, List.set_cons_succ]
                 go_big_quiet_on))
            refine wpQuiet_nil ?_
            intro x hx
            have HX := Lib.hid hx
            clear hx HR HC HN
            have HE := Lib.hid (directs_part 6 want own HF.out)
            go_wp2_with fail
            go_ret
            exact ⟨by rw [HD.out, HE.out]; rfl, HX.out.1⟩
        | false =>
          have HF := Lib.hid hdj
          rw [hdj] at HC
          clear hdj
          rcases three with h3 | h3 | h3
          · have e6 : (k == 6) = false := by simpa using h3
            rw [show flip k j = false by rw [flip, e6, Bool.false_and], Bool.bne_false] at HC
            clear h3
            go_wp2_with fail
            refine wp_region_class (C := fun x => Below w.heap.size w x ∧ Box4 w.heap.size k a b (.slice ao l.length cap) x) (by kernel_rfl) (by kernel_rfl) ⟨HR.out.1.drew, HR.out.2⟩ ?_
            repeat (first
              | go_big_quiet_skip
              | (go_big_quiet_want
                 apply quiet_of
                 · intro x hx
                   obtain ⟨a0, -, -, a3⟩ := hx.2.cells
                   obtain ⟨c0, c1, c2, c3⟩ := HN.out x hx.1
                   first
                     | (go_simp; rfl)
                     | (clear a0 a3 c0 c1 c2 c3; go_simp; go_at_call 36; refine (HC.out x hx.1).mono ?_; rintro e y ⟨rfl, hy⟩; exact ⟨rfl, hx.1.trans (hy.mono hx.1.size), hx.2.on hy⟩)
                 simp only [Act.put, List.setIfInBounds_toArray, List.set_cons_zero, List.set_cons_succ]
                 go_big_quiet_on))
            refine wpQuiet_nil ?_
            intro x hx
            have HX := Lib.hid hx
            clear hx HR HC HN
            go_wp2_with fail
            go_roundw
            case rel => exact ⟨_, hlt, by go_num, HF, HX.out⟩
            case measure => simp [intOf]; omega
          · obtain ⟨rfl, h3⟩ := h3
            have e1 : ((j : Int) == 1) = true := by simp; omega
            rw [show flip 6 j = true by rw [flip]; simp; omega, Bool.bne_true] at HC
            clear h3
            go_wp2_with fail
            refine wp_region_class (C := fun x => Below w.heap.size w x ∧ Box4 w.heap.size 6 a b (.slice ao l.length cap) x) (by kernel_rfl) (by kernel_rfl) ⟨HR.out.1.drew, HR.out.2⟩ ?_
            repeat (first
              | go_big_quiet_skip
              | (go_big_quiet_want
                 apply quiet_of
                 · intro x hx
                   obtain ⟨a0, -, -, a3⟩ := hx.2.cells
                   obtain ⟨c0, c1, c2, c3⟩ := HN.out x hx.1
                   first
                     | (go_simp; rfl)
                     | (clear a0 a3 c0 c1 c2 c3; go_simp; go_at_call 36; refine (HC.out x hx.1).mono ?_; rintro e y ⟨rfl, hy⟩; exact ⟨rfl, hx.1.trans (hy.mono hx.1.size), hx.2.on hy⟩)
                 simp only [Act.put, List.setIfInBounds_toArray, List.set_cons_zero, List.set_cons_succ]
                 go_big_quiet_on))
            refine wpQuiet_nil ?_
            intro x hx
            have HX := Lib.hid hx
            clear hx HR HC HN
            go_wp2_with fail
            go_roundw
            case rel => exact ⟨_, hlt, by go_num, HF, HX.out⟩
            case measure => simp [intOf]; omega
          · obtain ⟨rfl, h3⟩ := h3
            have e1 : ((j : Int) == 1) = false := by simp; omega
            rw [show flip 6 j = false by rw [flip]; simp; omega, Bool.bne_false] at HC
            clear h3
            go_wp2_with fail
            refine wp_region_class (C := fun x => Below w.heap.size w x ∧ Box4 w.heap.size 6 a b (.slice ao l.length cap) x) (by kernel_rfl) (by kernel_rfl) ⟨HR.out.1.drew, HR.out.2⟩ ?_
            repeat (first
              | go_big_quiet_skip
              | (go_big_quiet_want
                 apply quiet_of
                 · intro x hx
                   obtain ⟨a0, -, -, a3⟩ := hx.2.cells
                   obtain ⟨c0, c1, c2, c3⟩ := HN.out x hx.1
                   first
                     | (go_simp; rfl)
                     | (clear a0 a3 c0 c1 c2 c3; go_simp; go_at_call 36; refine (HC.out x hx.1).mono ?_; rintro e y ⟨rfl, hy⟩; exact ⟨rfl, hx.1.trans (hy.mono hx.1.size), hx.2.on hy⟩)
                 simp only [Act.put, List.setIfInBounds_toArray, List.set_cons_zero, List.set_cons_succ]
                 go_big_quiet_on))
            refine wpQuiet_nil ?_
            intro x hx
            have HX := Lib.hid hx
            clear hx HR HC HN
            go_wp2_with fail
            go_roundw
            case rel => exact ⟨_, hlt, by go_num, HF, HX.out⟩
            case measure => simp [intOf]; omega
      · have hj' : j = l.length := by omega
        subst hj'
        have hG := HG.out
        rw [List.take_length] at hG
        have HE := Lib.hid (HD.out.trans (by rw [hG, Bool.false_or]))
        obtain ⟨b0, b1, b2, b3⟩ := hbx.cells
        clear hG HG HD hb hbx HI HK
        by_cases h1 : k = 1
        · subst h1
          go_wp2_with fail
          go_ret
          exact ⟨by rw [HE.out]; rfl, HR.out.1⟩
        · have e1 : (k == 1) = false := by simpa using h1
          rw [e1, Bool.false_and] at HE
          clear h1
          go_wp2_with fail
          go_ret
          exact ⟨by rw [HE.out]; rfl, HR.out.1⟩
end Tr
end Go.Proofs.YtopncohhagebbaaGreatDoor

namespace Go.Proofs.YtopncohhagebbaaGreatDoor
open Go.RowKit
namespace Tr
open Knot (Turns NewRow)

set_option maxRecDepth 100000 in
theorem rrefs_elem : ∃ i z b, IsElem Tryz.prog 96 99 i z 3 b ∧ b ≤ 100 := by
  refine ⟨_, _, _, ⟨by kernel_rfl, rfl, rfl, by kernel_rfl, rfl, by kernel_rfl, by omega⟩, ?_⟩
  exact of_decide_eq_true (by kernel_rfl)
def RRefsAt (B : Nat) (x : World) (v : Value) (s : List Rf) : Prop := x.ownsRow B 99 3 v s.length (cellsR s)
def RRefs (n : Nd) (odd : Bool) (w : World) (e : Ending) (x : World) : Prop := ∃ u, e = .returned u ∧ RRefsAt w.heap.size x u (refs n odd) ∧ Below w.heap.size w x
theorem cellsR_one : ∀ (l : List Rf), ∀ u ∈ cellsR l, u.oneCell' = true := by
  intro l u hu
  rw [cellsR, List.mem_flatMap] at hu
  obtain ⟨r, -, hu⟩ := hu
  simp at hu
  rcases hu with rfl | rfl | rfl <;> rfl
theorem cellsR_len : ∀ l : List Rf, (cellsR l).length = l.length * 3
  | [] => rfl
  | r :: l => by
    have := cellsR_len l
    rw [cellsR] at this ⊢
    rw [List.flatMap_cons, List.length_append, this, List.length_cons, List.length_cons, List.length_cons, List.length_cons, List.length_nil]
    omega
def From (B : Nat) (x y : World) : Prop := Below B x y

set_option maxHeartbeats 8000000 in
set_option maxRecDepth 100000 in
theorem rrefs_any : ∀ (q : Nat) (n : Nd) (odd : Bool) (v : Value) (w : World), size n ≤ q → size n ≤ 300 → IsNode w n v →
    Calls Tryz.prog 37 #[v, .bool odd] w (RRefs n odd w) := by
  intro q
  induction q with
  | zero => intro n odd v w h; have := size_pos n; omega
  | succ q ih =>
    intro n odd v w hk hl hn
    obtain ⟨ao, cap, vs, rfl, -, hks⟩ := hn.kids
    cases n with
    | mk k a b l =>
    have hsz : sizes l ≤ 300 := by rw [size] at hl; omega
    have hll : l.length ≤ 300 := by have := sizes_len l; omega
    have HI := Lib.hid (show ∀ n ∈ l, ∀ odd v w, IsNode w n v → Calls Tryz.prog 37 #[v, .bool odd] w (RRefs n odd w) from
      fun n hn odd v w => ih n odd v w (by rw [size] at hk; have := sizes_mem hn; omega) (by rw [size] at hl; have := sizes_mem hn; omega))
    have HK : Hid (Kids w l ao vs) := hks
    clear hn ih hk hl hks
    show Calls _ _ #[node4 k a b (.slice ao l.length cap), _] _ _
    have al : Below w.heap.size w (w.alloc (.cells #[.int .i64 k, .string a, .string b, .slice ao l.length cap] 47)) := new_alloc w _
    have HA := Lib.hid al
    have hone : ∀ (x y : ByteArray) (o : Bool) (T : World) (_hT : Below w.heap.size w T), RRefsAt w.heap.size (T.alloc (.cells #[.string x, .string y, .bool o] 99)) (.slice (some ⟨T.heap.size, 0, none⟩) 1 1) [⟨x, y, o⟩] := fun x y o T hT =>
      ⟨rfl, .inr ⟨T.heap.size, 1, _, rfl, hT.size, heap_alloc_new T _, Nat.le_refl _, by unfold maxLen; omega, rfl, rfl⟩⟩
    have HO := Lib.hid hone
    clear al hone
    by_cases h2 : k = 2
    · subst h2
      have HR := Lib.hid (show refs (.mk 2 a b l) odd = [⟨none0, a, odd⟩] by rw [refs]; simp)
      clear HI HK
      go_enter Tryz.func37, Tryz.ntmps37
      go_wp2_with fail
      go_ret
      refine ⟨_, rfl, ?_, HA.out.alloc HA.out.size _⟩
      rw [HR.out]
      have := HO.out none0 a odd _ HA.out
      simpa [none0] using this
    by_cases h3 : k = 3
    · subst h3
      have HR := Lib.hid (show refs (.mk 3 a b l) odd = [⟨a, b, odd⟩] by rw [refs]; simp)
      clear HI HK h2
      go_enter Tryz.func37, Tryz.ntmps37
      go_wp2_with fail
      go_ret
      refine ⟨_, rfl, ?_, HA.out.alloc HA.out.size _⟩
      rw [HR.out]
      have := HO.out a b odd _ HA.out
      simpa using this
    have HR := Lib.hid (show refs (.mk k a b l) odd = refss k l 0 odd by rw [refs]; simp [h2, h3])
    have e2 : (k == 2) = false := by simpa using h2
    have e3 : (k == 3) = false := by simpa using h3
    clear h2 h3 HO HA
    go_enter Tryz.func37, Tryz.ntmps37
    go_wp2_with fail
    clear e2 e3
    go_loopw [5, 28] (fun rv i wr => ∃ j : Nat, j ≤ l.length ∧ i = .int .i64 j ∧ Hid (wr.ownsRow (w.heap.size + 1) 99 3 rv (refss k (l.take j) 0 odd).length (cellsR (refss k (l.take j) 0 odd)) ∧ Below w.heap.size w wr ∧ Box4 w.heap.size k a b (.slice ao l.length cap) wr)) (fun _ i _ => l.length - (intOf i).toNat)
    case atStart => exact ⟨0, by omega, rfl, Lib.hid ⟨World.ownsRow_nil _ _ _ _, new_alloc w _, Box4.new w _ _ _ _⟩⟩
    case round =>
      obtain ⟨j, hj, rfl, HJ⟩ := hrel
      obtain ⟨ro, rc, rfl⟩ := own_slice HJ.out.1
      by_cases hlt : j < l.length
      · obtain ⟨g, q, sa, sc, hix, hg, c0, c1, c2, c3, hn⟩ := HK.out.at cap hlt
        have hC := fun x (hx : Below w.heap.size w x) => HI.out l[j] (List.getElem_mem hlt) (odd != flip k j) _ x (hn.below hx)
        have htk := refss_take k odd hlt
        have hlen : (refss k (l.take j) 0 odd).length + (refs l[j] (odd != flip k j)).length ≤ 300 := by
          have h1 := refss_len k (l.take (j + 1)) 0 odd
          have h2 := sizes_part l (j + 1)
          rw [htk, List.length_append] at h1
          omega
        have HX := Lib.hid (show ∀ x, Below (w.heap.size + 1) wr.drew x → (x.cell? ⟨w.heap.size, 0, none⟩ = some (.int .i64 k) ∧ x.cell? ⟨w.heap.size, 3, none⟩ = some (.slice ao l.length cap)) ∧ x.cell? ⟨g, q, none⟩ = some (.int .i64 l[j].kind) ∧ x.cell? ⟨g, q + 1, none⟩ = some (.string l[j].ta) ∧ x.cell? ⟨g, q + 2, none⟩ = some (.string l[j].tb) ∧ x.cell? ⟨g, q + 3, none⟩ = some (.slice sa l[j].kids.length sc) from fun x hx => by
          have hb : Below w.heap.size w x := HJ.out.2.1.drew.trans (hx.mono (by omega))
          have hbx : Box4 w.heap.size k a b (.slice ao l.length cap) x := (hx.block w.heap.size (by omega)).trans HJ.out.2.2
          exact ⟨⟨hbx.cells.1, hbx.cells.2.2.2⟩, (hb.cell (p := ⟨g, q, none⟩) hg).trans c0, (hb.cell (p := ⟨g, q + 1, none⟩) hg).trans c1, (hb.cell (p := ⟨g, q + 2, none⟩) hg).trans c2, (hb.cell (p := ⟨g, q + 3, none⟩) hg).trans c3⟩)
        have HC := Lib.hid hC
        have HL := Lib.hid (And.intro htk hlen)
        have hj3 : j ≤ 300 := by omega
        clear c0 c1 c2 c3 hg hn hC htk hlen
        have three : (k ≠ 6) ∨ (k = 6 ∧ j = 1) ∨ (k = 6 ∧ j ≠ 1) := by omega
        rcases three with h3 | h3 | h3
        · have e6 : (k == 6) = false := by simpa using h3
          rw [show flip k j = false by rw [flip, e6, Bool.false_and], Bool.bne_false] at HC HL
          clear h3
          obtain ⟨ti, tz, tb', T, hT⟩ := rrefs_elem
          have HT := Lib.hid (And.intro T hT)
          clear T hT hsz hll
          go_wp2_with fail
          refine Order.region_begin (S := Below (w.heap.size + 1) wr.drew) (by kernel_rfl) ?_
          refine Order.reads_any (idx := [0, 1, 2, 3, 4, 5, 6, 7, 8, 9, 10, 11, 12, 13, 14]) (by kernel_rfl) (Below.refl _ _) (fun _ _ _ _ _ h => Order.noPanic_put h) 3 _ _ (by decide +kernel) ?_
          simp only [Order.pick, List.getElem?_toArray, List.getElem?_cons_zero, List.getElem?_cons_succ]
          repeat (first
            | (refine Order.reads_off (by rfl) ?_
               simp only [Act.put, List.setIfInBounds_toArray, List.set_cons_zero, List.set_cons_succ])
            | (apply Order.reads_on
               · rfl
               · intro x hx
                 first
                   | (go_simp; rfl)
                   | (obtain ⟨⟨a0, a3⟩, d0, d1, d2, d3⟩ := HX.out x hx
                      go_simp; rfl)
               simp only [Act.put, List.setIfInBounds_toArray, List.set_cons_zero, List.set_cons_succ]))
          refine Order.reads_end ?_
          apply Order.acts_any (R := Below (w.heap.size + 1)) (fun h k => h.trans k) (i := 15)
          · rfl
          · decide +kernel
          · rfl
          unfold Oper.wp
          go_simp
          refine Calls.mono (HC.out _ HJ.out.2.1.drew) ?_
          rintro e w1 ⟨u, rfl, hu, b1⟩
          have hwz : w.heap.size < wr.heap.size := HJ.out.2.2.lt
          have b1' : Below wr.heap.size wr w1 := (Below.refl _ _).drew.trans b1
          have o1 := own_below HJ.out.1 b1'
          refine ⟨b1.mono (by show w.heap.size + 1 ≤ wr.heap.size; omega), ?_⟩
          have H1 := Lib.hid (And.intro o1 (And.intro hu (And.intro (HJ.out.2.1.trans (b1'.mono HJ.out.2.1.size)) (And.intro (HJ.out.2.2.on b1') hwz))))
          have hw1 := b1'.size
          clear o1 hu b1 b1' HX HC
          obtain ⟨uo, uc, rfl⟩ := own_slice H1.out.2.1
          have hdone : ∀ v2 z, z.ownsRow (w.heap.size + 1) 99 3 v2 ((refss k (l.take j) 0 odd).length + (refs l[j] odd).length) (cellsR (refss k (l.take j) 0 odd) ++ cellsR (refs l[j] odd)) → Below (w.heap.size + 1) w1 z →
              Hid (z.ownsRow (w.heap.size + 1) 99 3 v2 (refss k (l.take (j + 1)) 0 odd).length (cellsR (refss k (l.take (j + 1)) 0 odd)) ∧ Below w.heap.size w z ∧ Box4 w.heap.size k a b (.slice ao l.length cap) z) := fun v2 z hz hbz => by
            rw [HL.out.1, List.length_append, cellsR_append]
            exact Lib.hid ⟨hz, H1.out.2.2.1.trans (hbz.mono (by omega)), (hbz.block w.heap.size (by omega)).trans H1.out.2.2.2.1⟩
          apply Order.acts_any (R := Below (w.heap.size + 1)) (fun h k => h.trans k) (i := 16)
          · rfl
          · decide +kernel
          · rfl
          cases uo with
          | none =>
            have h0 : (refs l[j] odd).length = 0 ∧ uc = 0 := by
              rcases H1.out.2.1.2 with ⟨h, h'⟩ | ⟨g', cap', cur', h, -⟩
              · exact ⟨h', by simpa [h'] using h⟩
              · simp at h
            have hnil : refs l[j] odd = [] := List.eq_nil_of_length_eq_zero h0.1
            obtain rfl : uc = 0 := h0.2
            refine wp_none HT.out.1 _ _ rfl rfl (by show Value.slice none (refs l[j] odd).length 0 = _; rw [h0.1]) H1.out.1 (by have := HL.out.2; omega) ?_
            refine ⟨Below.refl _ _, ?_⟩
            have HD := hdone _ w1 (by rw [hnil, show cellsR [] = [] from rfl, List.append_nil, List.length_nil, Nat.add_zero]; exact H1.out.1) (Below.refl _ _)
            clear hdone hnil h0 H1 HJ HL HT hw1 hwz
            simp only [Act.put, List.setIfInBounds_toArray]
            refine Order.reads_any (idx := [17]) (by kernel_rfl) (Below.refl _ _) (fun _ _ _ _ _ h => Order.noPanic_put h) 0 _ _ (by decide +kernel) ?_
            simp only [Order.pick, List.getElem?_toArray, List.getElem?_cons_zero, List.getElem?_cons_succ]
            repeat (first
              | (refine Order.reads_off (by rfl) ?_
                 simp only [Act.put, List.setIfInBounds_toArray, List.set_cons_zero, List.set_cons_succ])
              | (apply Order.reads_on
                 · rfl
                 · intro x hx
                   first
                     | (go_simp; rfl)
                     | (fail
                        go_simp; rfl)
                 simp only [Act.put]))
            refine Order.reads_end ?_
            refine wpAnyH_done (by decide +kernel) ?_ _
            refine NoPanic.normal ?_
            go_wp2_with fail
            go_roundw
            case rel => exact ⟨_, hlt, by go_num, HD⟩
            case measure => simp [intOf]; omega
          | some ua =>
            obtain ⟨ug, ucc, hua, hc⟩ : ∃ ug ucc, Value.slice (some ua) (refs l[j] odd).length uc = .slice (some ⟨ug, 0, none⟩) (refs l[j] odd).length ucc ∧ ∀ i u, (cellsR (refs l[j] odd))[i]? = some u → w1.cell? ((⟨ug, 0, none⟩ : Addr).add i) = some u := by
              rcases H1.out.2.1.2 with ⟨h, -⟩ | ⟨g', cap', cur', h, -⟩
              · simp at h
              · refine ⟨g', cap', h, ?_⟩
                have h2 := H1.out.2.1
                rw [h] at h2
                exact h2.cells (g := g') rfl
            obtain ⟨rfl, -, rfl⟩ : ua = ⟨ug, 0, none⟩ ∧ (refs l[j] odd).length = (refs l[j] odd).length ∧ uc = ucc := by simpa using hua
            refine wp_rows HT.out.1 _ _ rfl rfl rfl H1.out.1 (by omega) (m := (refs l[j] odd).length) (news := cellsR (refs l[j] odd)) (cellsR_len _) hc (cellsR_one _) (by have := HL.out.2; omega) (Nat.le_trans (Nat.mul_le_mul_left _ HT.out.2) (by have := HL.out.2; omega)) ?_
            intro v2 z o2 g2 n2
            have hbz : Below (w.heap.size + 1) w1 z := (Below.refl _ _).grown g2 (by omega) fun k hk => (H1.out.1.lt k hk).1
            refine ⟨hbz, ?_⟩
            have HD := hdone v2 z o2 hbz
            obtain ⟨vo, vc, rfl⟩ := own_slice o2
            clear hdone o2 g2 n2 hbz hc hua H1 HJ HL HT hw1 hwz
            simp only [Act.put, List.setIfInBounds_toArray]
            refine Order.reads_any (idx := [17]) (by kernel_rfl) (Below.refl _ _) (fun _ _ _ _ _ h => Order.noPanic_put h) 0 _ _ (by decide +kernel) ?_
            simp only [Order.pick, List.getElem?_toArray, List.getElem?_cons_zero, List.getElem?_cons_succ]
            repeat (first
              | (refine Order.reads_off (by rfl) ?_
                 simp only [Act.put, List.setIfInBounds_toArray, List.set_cons_zero, List.set_cons_succ])
              | (apply Order.reads_on
                 · rfl
                 · intro x hx
                   first
                     | (go_simp; rfl)
                     | (fail
                        go_simp; rfl)
                 simp only [Act.put]))
            refine Order.reads_end ?_
            refine wpAnyH_done (by decide +kernel) ?_ _
            refine NoPanic.normal ?_
            go_wp2_with fail
            go_roundw
            case rel => exact ⟨_, hlt, by go_num, HD⟩
            case measure => simp [intOf]; omega
        · obtain ⟨rfl, h3⟩ := h3
          have e1 : ((j : Int) == 1) = true := by simp; omega
          rw [show flip 6 j = true by rw [flip]; simp; omega, Bool.bne_true] at HC HL
          clear h3
          obtain ⟨ti, tz, tb', T, hT⟩ := rrefs_elem
          have HT := Lib.hid (And.intro T hT)
          clear T hT hsz hll
          go_wp2_with fail
          refine Order.region_begin (S := Below (w.heap.size + 1) wr.drew) (by kernel_rfl) ?_
          refine Order.reads_any (idx := [0, 1, 2, 3, 4, 5, 6, 7, 8, 9, 10, 11, 12, 13, 14]) (by kernel_rfl) (Below.refl _ _) (fun _ _ _ _ _ h => Order.noPanic_put h) 3 _ _ (by decide +kernel) ?_
          simp only [Order.pick, List.getElem?_toArray, List.getElem?_cons_zero, List.getElem?_cons_succ]
          repeat (first
            | (refine Order.reads_off (by rfl) ?_
               simp only [Act.put, List.setIfInBounds_toArray, List.set_cons_zero, List.set_cons_succ])
            | (apply Order.reads_on
               · rfl
               · intro x hx
                 first
                   | (go_simp; rfl)
                   | (obtain ⟨⟨a0, a3⟩, d0, d1, d2, d3⟩ := HX.out x hx
                      go_simp; rfl)
               simp only [Act.put, List.setIfInBounds_toArray, List.set_cons_zero, List.set_cons_succ]))
          refine Order.reads_end ?_
          apply Order.acts_any (R := Below (w.heap.size + 1)) (fun h k => h.trans k) (i := 15)
          · rfl
          · decide +kernel
          · rfl
          unfold Oper.wp
          go_simp
          refine Calls.mono (HC.out _ HJ.out.2.1.drew) ?_
          rintro e w1 ⟨u, rfl, hu, b1⟩
          have hwz : w.heap.size < wr.heap.size := HJ.out.2.2.lt
          have b1' : Below wr.heap.size wr w1 := (Below.refl _ _).drew.trans b1
          have o1 := own_below HJ.out.1 b1'
          refine ⟨b1.mono (by show w.heap.size + 1 ≤ wr.heap.size; omega), ?_⟩
          have H1 := Lib.hid (And.intro o1 (And.intro hu (And.intro (HJ.out.2.1.trans (b1'.mono HJ.out.2.1.size)) (And.intro (HJ.out.2.2.on b1') hwz))))
          have hw1 := b1'.size
          clear o1 hu b1 b1' HX HC
          obtain ⟨uo, uc, rfl⟩ := own_slice H1.out.2.1
          have hdone : ∀ v2 z, z.ownsRow (w.heap.size + 1) 99 3 v2 ((refss 6 (l.take j) 0 odd).length + (refs l[j] (!odd)).length) (cellsR (refss 6 (l.take j) 0 odd) ++ cellsR (refs l[j] (!odd))) → Below (w.heap.size + 1) w1 z →
              Hid (z.ownsRow (w.heap.size + 1) 99 3 v2 (refss 6 (l.take (j + 1)) 0 odd).length (cellsR (refss 6 (l.take (j + 1)) 0 odd)) ∧ Below w.heap.size w z ∧ Box4 w.heap.size 6 a b (.slice ao l.length cap) z) := fun v2 z hz hbz => by
            rw [HL.out.1, List.length_append, cellsR_append]
            exact Lib.hid ⟨hz, H1.out.2.2.1.trans (hbz.mono (by omega)), (hbz.block w.heap.size (by omega)).trans H1.out.2.2.2.1⟩
          apply Order.acts_any (R := Below (w.heap.size + 1)) (fun h k => h.trans k) (i := 16)
          · rfl
          · decide +kernel
          · rfl
          cases uo with
          | none =>
            have h0 : (refs l[j] (!odd)).length = 0 ∧ uc = 0 := by
              rcases H1.out.2.1.2 with ⟨h, h'⟩ | ⟨g', cap', cur', h, -⟩
              · exact ⟨h', by simpa [h'] using h⟩
              · simp at h
            have hnil : refs l[j] (!odd) = [] := List.eq_nil_of_length_eq_zero h0.1
            obtain rfl : uc = 0 := h0.2
            refine wp_none HT.out.1 _ _ rfl rfl (by show Value.slice none (refs l[j] (!odd)).length 0 = _; rw [h0.1]) H1.out.1 (by have := HL.out.2; omega) ?_
            refine ⟨Below.refl _ _, ?_⟩
            have HD := hdone _ w1 (by rw [hnil, show cellsR [] = [] from rfl, List.append_nil, List.length_nil, Nat.add_zero]; exact H1.out.1) (Below.refl _ _)
            clear hdone hnil h0 H1 HJ HL HT hw1 hwz
            simp only [Act.put, List.setIfInBounds_toArray]
            refine Order.reads_any (idx := [17]) (by kernel_rfl) (Below.refl _ _) (fun _ _ _ _ _ h => Order.noPanic_put h) 0 _ _ (by decide +kernel) ?_
            simp only [Order.pick, List.getElem?_toArray, List.getElem?_cons_zero, List.getElem?_cons_succ]
            repeat (first
              | (refine Order.reads_off (by rfl) ?_
                 simp only [Act.put, List.setIfInBounds_toArray, List.set_cons_zero, List.set_cons_succ])
              | (apply Order.reads_on
                 · rfl
                 · intro x hx
                   first
                     | (go_simp; rfl)
                     | (fail
                        go_simp; rfl)
                 simp only [Act.put]))
            refine Order.reads_end ?_
            refine wpAnyH_done (by decide +kernel) ?_ _
            refine NoPanic.normal ?_
            go_wp2_with fail
            go_roundw
            case rel => exact ⟨_, hlt, by go_num, HD⟩
            case measure => simp [intOf]; omega
          | some ua =>
            obtain ⟨ug, ucc, hua, hc⟩ : ∃ ug ucc, Value.slice (some ua) (refs l[j] (!odd)).length uc = .slice (some ⟨ug, 0, none⟩) (refs l[j] (!odd)).length ucc ∧ ∀ i u, (cellsR (refs l[j] (!odd)))[i]? = some u → w1.cell? ((⟨ug, 0, none⟩ : Addr).add i) = some u := by
              rcases H1.out.2.1.2 with ⟨h, -⟩ | ⟨g', cap', cur', h, -⟩
              · simp at h
              · refine ⟨g', cap', h, ?_⟩
                have h2 := H1.out.2.1
                rw [h] at h2
                exact h2.cells (g := g') rfl
            obtain ⟨rfl, -, rfl⟩ : ua = ⟨ug, 0, none⟩ ∧ (refs l[j] (!odd)).length = (refs l[j] (!odd)).length ∧ uc = ucc := by simpa using hua
            refine wp_rows HT.out.1 _ _ rfl rfl rfl H1.out.1 (by omega) (m := (refs l[j] (!odd)).length) (news := cellsR (refs l[j] (!odd))) (cellsR_len _) hc (cellsR_one _) (by have := HL.out.2; omega) (Nat.le_trans (Nat.mul_le_mul_left _ HT.out.2) (by have := HL.out.2; omega)) ?_
            intro v2 z o2 g2 n2
            have hbz : Below (w.heap.size + 1) w1 z := (Below.refl _ _).grown g2 (by omega) fun k hk => (H1.out.1.lt k hk).1
            refine ⟨hbz, ?_⟩
            have HD := hdone v2 z o2 hbz
            obtain ⟨vo, vc, rfl⟩ := own_slice o2
            clear hdone o2 g2 n2 hbz hc hua H1 HJ HL HT hw1 hwz
            simp only [Act.put, List.setIfInBounds_toArray]
            refine Order.reads_any (idx := [17]) (by kernel_rfl) (Below.refl _ _) (fun _ _ _ _ _ h => Order.noPanic_put h) 0 _ _ (by decide +kernel) ?_
            simp only [Order.pick, List.getElem?_toArray, List.getElem?_cons_zero, List.getElem?_cons_succ]
            repeat (first
              | (refine Order.reads_off (by rfl) ?_
                 simp only [Act.put, List.setIfInBounds_toArray, List.set_cons_zero, List.set_cons_succ])
              | (apply Order.reads_on
                 · rfl
                 · intro x hx
                   first
                     | (go_simp; rfl)
                     | (fail
                        go_simp; rfl)
                 simp only [Act.put]))
            refine Order.reads_end ?_
            refine wpAnyH_done (by decide +kernel) ?_ _
            refine NoPanic.normal ?_
            go_wp2_with fail
            go_roundw
            case rel => exact ⟨_, hlt, by go_num, HD⟩
            case measure => simp [intOf]; omega
        · obtain ⟨rfl, h3⟩ := h3
          have e1 : ((j : Int) == 1) = false := by simp; omega
          rw [show flip 6 j = false by rw [flip]; simp; omega, Bool.bne_false] at HC HL
          clear h3
          obtain ⟨ti, tz, tb', T, hT⟩ := rrefs_elem
          have HT := Lib.hid (And.intro T hT)
          clear T hT hsz hll
          go_wp2_with fail
          refine Order.region_begin (S := Below (w.heap.size + 1) wr.drew) (by kernel_rfl) ?_
          refine Order.reads_any (idx := [0, 1, 2, 3, 4, 5, 6, 7, 8, 9, 10, 11, 12, 13, 14]) (by kernel_rfl) (Below.refl _ _) (fun _ _ _ _ _ h => Order.noPanic_put h) 3 _ _ (by decide +kernel) ?_
          simp only [Order.pick, List.getElem?_toArray, List.getElem?_cons_zero, List.getElem?_cons_succ]
          repeat (first
            | (refine Order.reads_off (by rfl) ?_
               simp only [Act.put, List.setIfInBounds_toArray, List.set_cons_zero, List.set_cons_succ])
            | (apply Order.reads_on
               · rfl
               · intro x hx
                 first
                   | (go_simp; rfl)
                   | (obtain ⟨⟨a0, a3⟩, d0, d1, d2, d3⟩ := HX.out x hx
                      go_simp; rfl)
               simp only [Act.put, List.setIfInBounds_toArray, List.set_cons_zero, List.set_cons_succ]))
          refine Order.reads_end ?_
          apply Order.acts_any (R := Below (w.heap.size + 1)) (fun h k => h.trans k) (i := 15)
          · rfl
          · decide +kernel
          · rfl
          unfold Oper.wp
          go_simp
          refine Calls.mono (HC.out _ HJ.out.2.1.drew) ?_
          rintro e w1 ⟨u, rfl, hu, b1⟩
          have hwz : w.heap.size < wr.heap.size := HJ.out.2.2.lt
          have b1' : Below wr.heap.size wr w1 := (Below.refl _ _).drew.trans b1
          have o1 := own_below HJ.out.1 b1'
          refine ⟨b1.mono (by show w.heap.size + 1 ≤ wr.heap.size; omega), ?_⟩
          have H1 := Lib.hid (And.intro o1 (And.intro hu (And.intro (HJ.out.2.1.trans (b1'.mono HJ.out.2.1.size)) (And.intro (HJ.out.2.2.on b1') hwz))))
          have hw1 := b1'.size
          clear o1 hu b1 b1' HX HC
          obtain ⟨uo, uc, rfl⟩ := own_slice H1.out.2.1
          have hdone : ∀ v2 z, z.ownsRow (w.heap.size + 1) 99 3 v2 ((refss 6 (l.take j) 0 odd).length + (refs l[j] odd).length) (cellsR (refss 6 (l.take j) 0 odd) ++ cellsR (refs l[j] odd)) → Below (w.heap.size + 1) w1 z →
              Hid (z.ownsRow (w.heap.size + 1) 99 3 v2 (refss 6 (l.take (j + 1)) 0 odd).length (cellsR (refss 6 (l.take (j + 1)) 0 odd)) ∧ Below w.heap.size w z ∧ Box4 w.heap.size 6 a b (.slice ao l.length cap) z) := fun v2 z hz hbz => by
            rw [HL.out.1, List.length_append, cellsR_append]
            exact Lib.hid ⟨hz, H1.out.2.2.1.trans (hbz.mono (by omega)), (hbz.block w.heap.size (by omega)).trans H1.out.2.2.2.1⟩
          apply Order.acts_any (R := Below (w.heap.size + 1)) (fun h k => h.trans k) (i := 16)
          · rfl
          · decide +kernel
          · rfl
          cases uo with
          | none =>
            have h0 : (refs l[j] odd).length = 0 ∧ uc = 0 := by
              rcases H1.out.2.1.2 with ⟨h, h'⟩ | ⟨g', cap', cur', h, -⟩
              · exact ⟨h', by simpa [h'] using h⟩
              · simp at h
            have hnil : refs l[j] odd = [] := List.eq_nil_of_length_eq_zero h0.1
            obtain rfl : uc = 0 := h0.2
            refine wp_none HT.out.1 _ _ rfl rfl (by show Value.slice none (refs l[j] odd).length 0 = _; rw [h0.1]) H1.out.1 (by have := HL.out.2; omega) ?_
            refine ⟨Below.refl _ _, ?_⟩
            have HD := hdone _ w1 (by rw [hnil, show cellsR [] = [] from rfl, List.append_nil, List.length_nil, Nat.add_zero]; exact H1.out.1) (Below.refl _ _)
            clear hdone hnil h0 H1 HJ HL HT hw1 hwz
            simp only [Act.put, List.setIfInBounds_toArray]
            refine Order.reads_any (idx := [17]) (by kernel_rfl) (Below.refl _ _) (fun _ _ _ _ _ h => Order.noPanic_put h) 0 _ _ (by decide +kernel) ?_
            simp only [Order.pick, List.getElem?_toArray, List.getElem?_cons_zero, List.getElem?_cons_succ]
            repeat (first
              | (refine Order.reads_off (by rfl) ?_
                 simp only [Act.put, List.setIfInBounds_toArray, List.set_cons_zero, List.set_cons_succ])
              | (apply Order.reads_on
                 · rfl
                 · intro x hx
                   first
                     | (go_simp; rfl)
                     | (fail
                        go_simp; rfl)
                 simp only [Act.put]))
            refine Order.reads_end ?_
            refine wpAnyH_done (by decide +kernel) ?_ _
            refine NoPanic.normal ?_
            go_wp2_with fail
            go_roundw
            case rel => exact ⟨_, hlt, by go_num, HD⟩
            case measure => simp [intOf]; omega
          | some ua =>
            obtain ⟨ug, ucc, hua, hc⟩ : ∃ ug ucc, Value.slice (some ua) (refs l[j] odd).length uc = .slice (some ⟨ug, 0, none⟩) (refs l[j] odd).length ucc ∧ ∀ i u, (cellsR (refs l[j] odd))[i]? = some u → w1.cell? ((⟨ug, 0, none⟩ : Addr).add i) = some u := by
              rcases H1.out.2.1.2 with ⟨h, -⟩ | ⟨g', cap', cur', h, -⟩
              · simp at h
              · refine ⟨g', cap', h, ?_⟩
                have h2 := H1.out.2.1
                rw [h] at h2
                exact h2.cells (g := g') rfl
            obtain ⟨rfl, -, rfl⟩ : ua = ⟨ug, 0, none⟩ ∧ (refs l[j] odd).length = (refs l[j] odd).length ∧ uc = ucc := by simpa using hua
            refine wp_rows HT.out.1 _ _ rfl rfl rfl H1.out.1 (by omega) (m := (refs l[j] odd).length) (news := cellsR (refs l[j] odd)) (cellsR_len _) hc (cellsR_one _) (by have := HL.out.2; omega) (Nat.le_trans (Nat.mul_le_mul_left _ HT.out.2) (by have := HL.out.2; omega)) ?_
            intro v2 z o2 g2 n2
            have hbz : Below (w.heap.size + 1) w1 z := (Below.refl _ _).grown g2 (by omega) fun k hk => (H1.out.1.lt k hk).1
            refine ⟨hbz, ?_⟩
            have HD := hdone v2 z o2 hbz
            obtain ⟨vo, vc, rfl⟩ := own_slice o2
            clear hdone o2 g2 n2 hbz hc hua H1 HJ HL HT hw1 hwz
            simp only [Act.put, List.setIfInBounds_toArray]
            refine Order.reads_any (idx := [17]) (by kernel_rfl) (Below.refl _ _) (fun _ _ _ _ _ h => Order.noPanic_put h) 0 _ _ (by decide +kernel) ?_
            simp only [Order.pick, List.getElem?_toArray, List.getElem?_cons_zero, List.getElem?_cons_succ]
            repeat (first
              | (refine Order.reads_off (by rfl) ?_
                 simp only [Act.put, List.setIfInBounds_toArray, List.set_cons_zero, List.set_cons_succ])
              | (apply Order.reads_on
                 · rfl
                 · intro x hx
                   first
                     | (go_simp; rfl)
                     | (fail
                        go_simp; rfl)
                 simp only [Act.put]))
            refine Order.reads_end ?_
            refine wpAnyH_done (by decide +kernel) ?_ _
            refine NoPanic.normal ?_
            go_wp2_with fail
            go_roundw
            case rel => exact ⟨_, hlt, by go_num, HD⟩
            case measure => simp [intOf]; omega
      · have hj' : j = l.length := by omega
        subst hj'
        have hJ := HJ.out
        rw [List.take_length] at hJ
        have HF := Lib.hid hJ
        rw [List.take_length]
        clear HJ hJ HI HK
        go_wp2_with fail
        go_ret
        refine ⟨_, rfl, ?_, HF.out.2.1⟩
        rw [HR.out]
        have h := HF.out.1
        exact ⟨h.1, h.2.imp id fun ⟨g, cap, cur, h1, h2, h3⟩ => ⟨g, cap, cur, h1, by omega, h3⟩⟩
end Tr
end Go.Proofs.YtopncohhagebbaaGreatDoor

namespace Go.Proofs.YtopncohhagebbaaGreatDoor
open Go.RowKit
namespace Tr

theorem cellsR_at : ∀ (l : List Rf) {j : Nat} (h : j < l.length), (cellsR l)[j * 3]? = some (.string l[j].via) ∧ (cellsR l)[j * 3 + 1]? = some (.string l[j].rel) ∧ (cellsR l)[j * 3 + 2]? = some (.bool l[j].odd)
  | r :: l, 0, _ => ⟨rfl, rfl, rfl⟩
  | r :: l, j + 1, h => by
    have ih := cellsR_at l (j := j) (by simpa using h)
    have e : ∀ c, (cellsR (r :: l))[(j + 1) * 3 + c]? = (cellsR l)[j * 3 + c]? := fun c => by
      rw [show (j + 1) * 3 + c = (j * 3 + c) + 3 by omega]
      rfl
    have e0 := e 0
    rw [Nat.add_zero, Nat.add_zero] at e0
    exact ⟨e0.trans ih.1, (e 1).trans ih.2.1, (e 2).trans ih.2.2⟩
theorem elemRR : Tryz.prog.underlying 96 = some (.slice (Tryz.prog.elem 96)) := by kernel_rfl
theorem sizeRR : ∀ w, (sizeOf (Tryz.prog.elem 96)).run Tryz.prog w = .ok 3 w := fun w => by kernel_rfl
def RefCells (x : World) (g q : Nat) (r : Rf) : Prop := x.cell? ⟨g, q, none⟩ = some (.string r.via) ∧ x.cell? ⟨g, q + 1, none⟩ = some (.string r.rel) ∧ x.cell? ⟨g, q + 2, none⟩ = some (.bool r.odd)
theorem rref_at {B : Nat} {x : World} {v : Value} {s : List Rf} (h : RRefsAt B x v s) {j : Nat} (hj : j < s.length) :
    ∃ g q, (∀ W, (Instr.indexAt 96 v (.int .i64 (j : Int))).run Tryz.prog W = .ok (.pointer (some ⟨g, q, none⟩)) W) ∧ g < x.heap.size ∧ RefCells x g q s[j] := by
  obtain ⟨n, hn⟩ : ∃ n, s.length = n + 1 := ⟨s.length - 1, by omega⟩
  have h' : x.ownsRow B 99 3 v s.length (cellsR s) := h
  rw [hn] at h'
  obtain ⟨g, rc, rfl, -, hg, -, hc⟩ := own_open h'
  obtain ⟨c0, c1, c2⟩ := cellsR_at s hj
  refine ⟨g, j * 3, fun W => ?_, hg, hc _ _ c0, hc _ _ c1, hc _ _ c2⟩
  rw [run_indexAt_slice W _ _ _ _ _ _ elemRR, if_pos ⟨by omega, by omega⟩, sizeRR]
  have e : ((j : Int)).toNat = j := by omega
  simp only [Result.andThen_ok, e, Addr.add_lit, Nat.zero_add]
theorem RefCells.on {x y : World} {g q : Nat} {r : Rf} (h : RefCells x g q r) (hg : g < x.heap.size) (hb : Below x.heap.size x y) : RefCells y g q r :=
  ⟨(hb.cell (p := ⟨g, q, none⟩) hg).trans h.1, (hb.cell (p := ⟨g, q + 1, none⟩) hg).trans h.2.1, (hb.cell (p := ⟨g, q + 2, none⟩) hg).trans h.2.2⟩
end Tr
end Go.Proofs.YtopncohhagebbaaGreatDoor
