/-
  Layer 5 (tract): the document's Refs and Direct.
-/
import Derived.Test.YtleoknhnglbgoaaTrRefA
import Derived.Test.YtleoknhnglbgoaaTrRefsB
import Derived.Test.YtleoknhnglbgoaaClass
import Derived.Test.YtleoknhnglbgoaaOrder
namespace Go.Proofs.Ytleoknhnglbgoaa
open Go.RowKit
namespace Tr
open Who (wp_region_class quiet_of)

set_option maxHeartbeats 4000000 in
set_option maxRecDepth 100000 in
theorem rdirect_any : ∀ (q : Nat) (n : Nd) (want own : Bool) (v : Value) (w : World), size n ≤ q → size n ≤ 300 → IsNode w n v →
    Calls Try.prog 15 #[v, .bool want, .bool own] w fun e x => e = .returned (.bool (direct n want own)) ∧ Below w.heap.size w x := by
  intro q
  induction q with
  | zero => intro n want own v w h; have := size_pos n; omega
  | succ q ih =>
    intro n want own v w hk hl hn
    obtain ⟨ao, cap, vs, rfl, -, hks⟩ := hn.kids
    cases n with
    | mk k a b l =>
    have hll : l.length ≤ 300 := by rw [size] at hl; have := sizes_len l; omega
    have HI := Lib.hid (show ∀ n ∈ l, ∀ want own v w, IsNode w n v → Calls Try.prog 15 #[v, .bool want, .bool own] w fun e x => e = .returned (.bool (direct n want own)) ∧ Below w.heap.size w x from
      fun n hn want own v w => ih n want own v w (by rw [size] at hk; have := sizes_mem hn; omega) (by rw [size] at hl; have := sizes_mem hn; omega))
    have HK : Hid (Kids w l ao vs) := hks
    clear hn ih hk hl hks
    show Calls _ _ #[node4 k a b (.slice ao l.length cap), _, _] _ _
    have HD := Lib.hid (show direct (.mk k a b l) want own = (directs k l 0 want own || (k == 1 && want == own)) by rw [direct])
    go_enter Try.func15, Try.ntmps15
    go_wp2_with fail
    go_loopw [11] (fun i wr => ∃ j : Nat, j ≤ l.length ∧ i = .int .i64 j ∧ Hid (directs k (l.take j) 0 want own = false) ∧ Below w.heap.size w wr ∧ Box4 w.heap.size k a b (.slice ao l.length cap) wr) (fun i _ => l.length - (intOf i).toNat)
    case atStart => exact ⟨0, by omega, rfl, rfl, (Below.refl _ _).alloc (Nat.le_refl _) _, Box4.new w _ _ _ _⟩
    case round =>
      obtain ⟨j, hj, rfl, HG, hb, hbx⟩ := hrel
      have HR := Lib.hid (And.intro hb hbx)
      by_cases hlt : j < l.length
      · obtain ⟨g, q, sa, sc, hix, hg, c0, c1, c2, c3, hn⟩ := HK.out.at cap hlt
        have htk := directs_take k want own hlt
        rw [HG.out, Bool.false_or] at htk
        have hC := fun x (hx : Below w.heap.size w x) => HI.out l[j] (List.getElem_mem hlt) want (own != flip k j) _ x (hn.below hx)
        rw [← htk] at hC
        have HC := Lib.hid hC
        have HN := Lib.hid (show ∀ x, Below w.heap.size w x → x.cell? ⟨g, q, none⟩ = some (.int .i64 l[j].kind) ∧ x.cell? ⟨g, q + 1, none⟩ = some (.string l[j].ta) ∧ x.cell? ⟨g, q + 2, none⟩ = some (.string l[j].tb) ∧ x.cell? ⟨g, q + 3, none⟩ = some (.slice sa l[j].kids.length sc) from
          fun x hx => ⟨(hx.cell (p := ⟨g, q, none⟩) hg).trans c0, (hx.cell (p := ⟨g, q + 1, none⟩) hg).trans c1, (hx.cell (p := ⟨g, q + 2, none⟩) hg).trans c2, (hx.cell (p := ⟨g, q + 3, none⟩) hg).trans c3⟩)
        have hj3 : j ≤ 300 := by omega
        clear hb hbx c0 c1 c2 c3 hn hg hC htk
        have three : (k ≠ 6) ∨ (k = 6 ∧ j = 1) ∨ (k = 6 ∧ j ≠ 1) := by omega
        cases hdj : directs k (l.take (j + 1)) 0 want own with
        | true =>
          have HF := Lib.hid hdj
          rw [hdj] at HC
          clear hdj
          rcases three with h3 | h3 | h3
          · have e6 : (k == 6) = false := by simpa using h3
            rw [show flip k j = false by rw [flip, e6, Bool.false_and], Bool.bne_false] at HC
            clear h3
            go_wp2_with fail
            refine wp_region_class (C := fun x => Below w.heap.size w x ∧ Box4 w.heap.size k a b (.slice ao l.length cap) x) (by kernel_rfl) (by kernel_rfl) ⟨HR.out.1.drew, HR.out.2⟩ ?_
            repeat (first
              | go_big_quiet_skip
              | (go_big_quiet_want
                 apply quiet_of
                 · intro x hx
                   obtain ⟨a0, -, -, a3⟩ := hx.2.cells
                   obtain ⟨c0, c1, c2, c3⟩ := HN.out x hx.1
                   first
                     | (go_simp; rfl)
                     | (clear a0 a3 c0 c1 c2 c3; go_simp; go_at_call 15; refine (HC.out x hx.1).mono ?_; rintro e y ⟨rfl, hy⟩; exact ⟨rfl, hx.1.trans (hy.mono hx.1.size), hx.2.on hy⟩)
                 simp only [Act.put, List.setIfInBounds_toArray, List.set_cons_zero, List.set_cons_succ]
                 go_big_quiet_on))
            refine wpQuiet_nil ?_
            intro x hx
            have HX := Lib.hid hx
            clear hx HR HC HN
            have HE := Lib.hid (directs_part k want own HF.out)
            go_wp2_with fail
            go_ret
            exact ⟨by rw [HD.out, HE.out]; rfl, HX.out.1⟩
          · obtain ⟨rfl, h3⟩ := h3
            have e1 : ((j : Int) == 1) = true := by simp; omega
            rw [show flip 6 j = true by rw [flip]; simp; omega, Bool.bne_true] at HC
            clear h3
            go_wp2_with fail
            refine wp_region_class (C := fun x => Below w.heap.size w x ∧ Box4 w.heap.size 6 a b (.slice ao l.length cap) x) (by kernel_rfl) (by kernel_rfl) ⟨HR.out.1.drew, HR.out.2⟩ ?_
            repeat (first
              | go_big_quiet_skip
              | (go_big_quiet_want
                 apply quiet_of
                 · intro x hx
                   obtain ⟨a0, -, -, a3⟩ := hx.2.cells
                   obtain ⟨c0, c1, c2, c3⟩ := HN.out x hx.1
                   first
                     | (go_simp; rfl)
                     | (clear a0 a3 c0 c1 c2 c3; go_simp; go_at_call 15; refine (HC.out x hx.1).mono ?_; rintro e y ⟨rfl, hy⟩; exact ⟨rfl, hx.1.trans (hy.mono hx.1.size), hx.2.on hy⟩)
                 simp only [Act.put, List.setIfInBounds_toArray, List.set_cons_zero, List.set_cons_succ]
                 go_big_quiet_on))
            refine wpQuiet_nil ?_
            intro x hx
            have HX := Lib.hid hx
            clear hx HR HC HN
            have HE := Lib.hid (directs_part 6 want own HF.out)
            go_wp2_with fail
            go_ret
            exact ⟨by rw [HD.out, HE.out]; rfl, HX.out.1⟩
          · obtain ⟨rfl, h3⟩ := h3
            have e1 : ((j : Int) == 1) = false := by simp; omega
            rw [show flip 6 j = false by rw [flip]; simp; omega, Bool.bne_false] at HC
            clear h3
            go_wp2_with fail
            refine wp_region_class (C := fun x => Below w.heap.size w x ∧ Box4 w.heap.size 6 a b (.slice ao l.length cap) x) (by kernel_rfl) (by kernel_rfl) ⟨HR.out.1.drew, HR.out.2⟩ ?_
            repeat (first
              | go_big_quiet_skip
              | (go_big_quiet_want
                 apply quiet_of
                 · intro x hx
                   obtain ⟨a0, -, -, a3⟩ := hx.2.cells
                   obtain ⟨c0, c1, c2, c3⟩ := HN.out x hx.1
                   first
                     | (go_simp; rfl)
                     | (clear a0 a3 c0 c1 c2 c3; go_simp; go_at_call 15; refine (HC.out x hx.1).mono ?_; rintro e y ⟨rfl, hy⟩; exact ⟨rfl, hx.1.trans (hy.mono hx.1.size), hx.2.on hy⟩)
                 simp only [Act.put, List.setIfInBounds_toArray, List.set_cons_zero, List.set_cons_succ]
                 go_big_quiet_on))
            refine wpQuiet_nil ?_
            intro x hx
            have HX := Lib.hid hx
            clear hx HR HC HN
            have HE := Lib.hid (directs_part 6 want own HF.out)
            go_wp2_with fail
            go_ret
            exact ⟨by rw [HD.out, HE.out]; rfl, HX.out.1⟩
        | false =>
          have HF := Lib.hid hdj
          rw [hdj] at HC
          clear hdj
          rcases three with h3 | h3 | h3
          · have e6 : (k == 6) = false := by simpa using h3
            rw [show flip k j = false by rw [flip, e6, Bool.false_and], Bool.bne_false] at HC
            clear h3
            go_wp2_with fail
            refine wp_region_class (C := fun x => Below w.heap.size w x ∧ Box4 w.heap.size k a b (.slice ao l.length cap) x) (by kernel_rfl) (by kernel_rfl) ⟨HR.out.1.drew, HR.out.2⟩ ?_
            repeat (first
              | go_big_quiet_skip
              | (go_big_quiet_want
                 apply quiet_of
                 · intro x hx
                   obtain ⟨a0, -, -, a3⟩ := hx.2.cells
                   obtain ⟨c0, c1, c2, c3⟩ := HN.out x hx.1
                   first
                     | (go_simp; rfl)
                     | (clear a0 a3 c0 c1 c2 c3; go_simp; go_at_call 15; refine (HC.out x hx.1).mono ?_; rintro e y ⟨rfl, hy⟩; exact ⟨rfl, hx.1.trans (hy.mono hx.1.size), hx.2.on hy⟩)
                 simp only [Act.put, List.setIfInBounds_toArray, List.set_cons_zero, List.set_cons_succ]
                 go_big_quiet_on))
            refine wpQuiet_nil ?_
            intro x hx
            have HX := Lib.hid hx
            clear hx HR HC HN
            go_wp2_with fail
            go_roundw
            case rel => exact ⟨_, hlt, by go_num, HF, HX.out⟩
            case measure => simp [intOf]; omega
          · obtain ⟨rfl, h3⟩ := h3
            have e1 : ((j : Int) == 1) = true := by simp; omega
            rw [show flip 6 j = true by rw [flip]; simp; omega, Bool.bne_true] at HC
            clear h3
            go_wp2_with fail
            refine wp_region_class (C := fun x => Below w.heap.size w x ∧ Box4 w.heap.size 6 a b (.slice ao l.length cap) x) (by kernel_rfl) (by kernel_rfl) ⟨HR.out.1.drew, HR.out.2⟩ ?_
            repeat (first
              | go_big_quiet_skip
              | (go_big_quiet_want
                 apply quiet_of
                 · intro x hx
                   obtain ⟨a0, -, -, a3⟩ := hx.2.cells
                   obtain ⟨c0, c1, c2, c3⟩ := HN.out x hx.1
                   first
                     | (go_simp; rfl)
                     | (clear a0 a3 c0 c1 c2 c3; go_simp; go_at_call 15; refine (HC.out x hx.1).mono ?_; rintro e y ⟨rfl, hy⟩; exact ⟨rfl, hx.1.trans (hy.mono hx.1.size), hx.2.on hy⟩)
                 simp only [Act.put, List.setIfInBounds_toArray, List.set_cons_zero, List.set_cons_succ]
                 go_big_quiet_on))
            refine wpQuiet_nil ?_
            intro x hx
            have HX := Lib.hid hx
            clear hx HR HC HN
            go_wp2_with fail
            go_roundw
            case rel => exact ⟨_, hlt, by go_num, HF, HX.out⟩
            case measure => simp [intOf]; omega
          · obtain ⟨rfl, h3⟩ := h3
            have e1 : ((j : Int) == 1) = false := by simp; omega
            rw [show flip 6 j = false by rw [flip]; simp; omega, Bool.bne_false] at HC
            clear h3
            go_wp2_with fail
            refine wp_region_class (C := fun x => Below w.heap.size w x ∧ Box4 w.heap.size 6 a b (.slice ao l.length cap) x) (by kernel_rfl) (by kernel_rfl) ⟨HR.out.1.drew, HR.out.2⟩ ?_
            repeat (first
              | go_big_quiet_skip
              | (go_big_quiet_want
                 apply quiet_of
                 · intro x hx
                   obtain ⟨a0, -, -, a3⟩ := hx.2.cells
                   obtain ⟨c0, c1, c2, c3⟩ := HN.out x hx.1
                   first
                     | (go_simp; rfl)
                     | (clear a0 a3 c0 c1 c2 c3; go_simp; go_at_call 15; refine (HC.out x hx.1).mono ?_; rintro e y ⟨rfl, hy⟩; exact ⟨rfl, hx.1.trans (hy.mono hx.1.size), hx.2.on hy⟩)
                 simp only [Act.put, List.setIfInBounds_toArray, List.set_cons_zero, List.set_cons_succ]
                 go_big_quiet_on))
            refine wpQuiet_nil ?_
            intro x hx
            have HX := Lib.hid hx
            clear hx HR HC HN
            go_wp2_with fail
            go_roundw
            case rel => exact ⟨_, hlt, by go_num, HF, HX.out⟩
            case measure => simp [intOf]; omega
      · have hj' : j = l.length := by omega
        subst hj'
        have hG := HG.out
        rw [List.take_length] at hG
        have HE := Lib.hid (HD.out.trans (by rw [hG, Bool.false_or]))
        obtain ⟨b0, b1, b2, b3⟩ := hbx.cells
        clear hG HG HD hb hbx HI HK
        by_cases h1 : k = 1
        · subst h1
          go_wp2_with fail
          go_ret
          exact ⟨by rw [HE.out]; rfl, HR.out.1⟩
        · have e1 : (k == 1) = false := by simpa using h1
          rw [e1, Bool.false_and] at HE
          clear h1
          go_wp2_with fail
          go_ret
          exact ⟨by rw [HE.out]; rfl, HR.out.1⟩
end Tr
end Go.Proofs.Ytleoknhnglbgoaa
