/-
  Layer 5 (tract): the document's Fits; and its Same, at two readings of one node.
-/
import Derived.Test.YtleoknhnglbgoaaTrGood
import Derived.Test.YtleoknhnglbgoaaClass
namespace Go.Proofs.Ytleoknhnglbgoaa
open Go.RowKit
namespace Tr
open Who (wp_region_class quiet_of)

set_option maxHeartbeats 2000000 in
set_option maxRecDepth 100000 in
theorem rfits_any (n : Nd) (v : Value) (w : World) (hz : size n ≤ 300) (hn : IsNode w n v) :
    Calls Try.prog 10 #[v] w fun e x => e = .returned (.int .i64 (errOf n)) ∧ Below w.heap.size w x := by
  obtain ⟨ao, cap, vs, rfl, -, -⟩ := hn.kids
  have HG := Lib.hid (fun x (hb : Below w.heap.size w x) => rgood_any (size n) n _ x (Nat.le_refl _) hz (hn.below hb))
  have HS := Lib.hid (fun x (hb : Below w.heap.size w x) => rsize_any (size n) n _ x (Nat.le_refl _) hz (hn.below hb))
  have HD := Lib.hid (fun x (hb : Below w.heap.size w x) => rdepth_any (size n) n _ x (Nat.le_refl _) hz (hn.below hb))
  have hdz := depth_le n
  have hB0 : Below w.heap.size w (w.alloc (.cells #[.int .i64 n.kind, .string n.ta, .string n.tb, .slice ao n.kids.length cap] 24)) := (Below.refl _ _).alloc (Nat.le_refl _) _
  have H0 := Lib.hid hB0
  have N0 := Lib.hid (Box4.new w n.kind n.ta n.tb (.slice ao n.kids.length cap))
  clear hn hB0
  cases hg : good n with
  | false =>
    have HE := Lib.hid (show errOf n = 2 by rw [errOf, if_pos hg])
    rw [hg] at HG
    clear hg
    go_enter Try.func10, Try.ntmps10
    go_wp2_with fail
    refine (HG.out _ H0.out).mono ?_
    rintro e x ⟨rfl, hx⟩
    go_wp2_with fail
    go_ret
    exact ⟨by rw [HE.out]; rfl, H0.out.trans (hx.mono H0.out.size)⟩
  | true =>
    have he : errOf n = if 24 < size n then 3 else if 8 < depth n then 12 else 0 := by rw [errOf, if_neg (by rw [hg]; simp)]
    rw [hg] at HG
    clear hg
    by_cases h1 : 24 < size n
    · rw [if_pos h1] at he
      have HE := Lib.hid he
      clear he
      go_enter Try.func10, Try.ntmps10
      go_wp2_with fail
      refine (HG.out _ H0.out).mono ?_
      rintro e x ⟨rfl, hx⟩
      have h2 := H0.out.trans (hx.mono H0.out.size)
      have N1 := N0.out.on hx
      obtain ⟨b0, b1, b2, b3⟩ := N1.cells
      have H2 := Lib.hid h2
      clear h2 hx
      go_wp2_with fail
      refine (HS.out _ H2.out).mono ?_
      rintro e y ⟨rfl, hy⟩
      go_wp2_with fail
      go_ret
      exact ⟨by rw [HE.out]; rfl, H2.out.trans (hy.mono H2.out.size)⟩
    · rw [if_neg h1] at he
      by_cases h2 : 8 < depth n
      all_goals
        simp only [h2, if_true, if_false] at he
        have HE := Lib.hid he
        clear he
        go_enter Try.func10, Try.ntmps10
        go_wp2_with fail
        refine (HG.out _ H0.out).mono ?_
        rintro e x ⟨rfl, hx⟩
        have h2 := H0.out.trans (hx.mono H0.out.size)
        have N1 := N0.out.on hx
        obtain ⟨b0, b1, b2, b3⟩ := N1.cells
        have H2 := Lib.hid (And.intro h2 N1)
        clear h2 hx N1
        go_wp2_with fail
        refine (HS.out _ H2.out.1).mono ?_
        rintro e y ⟨rfl, hy⟩
        have h3 := H2.out.1.trans (hy.mono H2.out.1.size)
        clear b0 b1 b2 b3
        obtain ⟨b0, b1, b2, b3⟩ := (H2.out.2.on hy).cells
        have H3 := Lib.hid h3
        clear h3 hy
        go_wp2_with fail
        refine (HD.out _ H3.out).mono ?_
        rintro e z ⟨rfl, hz⟩
        go_wp2_with fail
        go_ret
        exact ⟨by rw [HE.out]; rfl, H3.out.trans (hz.mono H3.out.size)⟩

set_option maxHeartbeats 4000000 in
set_option maxRecDepth 100000 in
theorem rsame_any : ∀ (q : Nat) (n : Nd) (v u : Value) (w : World), size n ≤ q → size n ≤ 300 → IsNode w n v → IsNode w n u →
    Calls Try.prog 11 #[v, u] w fun e x => e = .returned (.bool true) ∧ Below w.heap.size w x := by
  intro q
  induction q with
  | zero => intro n v u w h; have := size_pos n; omega
  | succ q ih =>
    intro n v u w hk hl hn hm
    obtain ⟨ao, cap, vs, rfl, -, hks⟩ := hn.kids
    obtain ⟨bo, dap, us, rfl, -, kks⟩ := hm.kids
    have hsz := size_kids n
    have hlen := sizes_len n.kids
    have HI := Lib.hid ih
    have hlen3 : n.kids.length ≤ 300 := by omega
    have HZ := Lib.hid (And.intro hsz hk)
    have HK := Lib.hid (And.intro hks kks)
    clear hn hm ih hlen hsz hk hks kks
    generalize n.kids = l at *
    have N1 := Box4.new w n.kind n.ta n.tb (.slice ao l.length cap)
    have N2 := Box4.new (w.alloc (.cells #[.int .i64 n.kind, .string n.ta, .string n.tb, .slice ao l.length cap] 24)) n.kind n.ta n.tb (.slice bo l.length dap)
    have N3 := N1.on ((Below.refl _ _).alloc (Nat.le_refl _) (.cells #[.int .i64 n.kind, .string n.ta, .string n.tb, .slice bo l.length dap] 24))
    rw [show (w.alloc (.cells #[.int .i64 n.kind, .string n.ta, .string n.tb, .slice ao l.length cap] 24)).heap.size = w.heap.size + 1 by simp] at N2
    have hB : Below w.heap.size w ((w.alloc (.cells #[.int .i64 n.kind, .string n.ta, .string n.tb, .slice ao l.length cap] 24)).alloc (.cells #[.int .i64 n.kind, .string n.ta, .string n.tb, .slice bo l.length dap] 24)) := ((Below.refl _ _).alloc (Nat.le_refl _) _).alloc (by simp) _
    have H0 := Lib.hid (And.intro hB (And.intro N3 N2))
    clear N1 N2 N3 hB
    go_enter Try.func11, Try.ntmps11
    go_wp2_with fail
    go_loopw [37] (fun i wr => ∃ j : Nat, j ≤ l.length ∧ i = .int .i64 j ∧ Below w.heap.size w wr ∧ Box4 w.heap.size n.kind n.ta n.tb (.slice ao l.length cap) wr ∧ Box4 (w.heap.size + 1) n.kind n.ta n.tb (.slice bo l.length dap) wr) (fun i _ => l.length - (intOf i).toNat)
    case atStart => exact ⟨0, by omega, rfl, H0.out⟩
    case round =>
      obtain ⟨j, hj, rfl, hb, h1, h2⟩ := hrel
      clear H0
      have HR := Lib.hid (And.intro hb (And.intro h1 h2))
      by_cases hlt : j < l.length
      · obtain ⟨g, q, sa, sc, hix, hg, c0, c1, c2, c3, hn⟩ := HK.out.1.at cap hlt
        obtain ⟨g', q', sa', sc', hix', hg', d0, d1, d2, d3, hm⟩ := HK.out.2.at dap hlt
        have hsm := sizes_mem (List.getElem_mem hlt)
        have hz := HZ.out
        have hC := fun x (hx : Below w.heap.size w x) => HI.out l[j] _ _ x (by omega) (by omega) (hn.below hx) (hm.below hx)
        have HC := Lib.hid hC
        have HN := Lib.hid (show ∀ x, Below w.heap.size w x → (x.cell? ⟨g, q, none⟩ = some (.int .i64 l[j].kind) ∧ x.cell? ⟨g, q + 1, none⟩ = some (.string l[j].ta) ∧ x.cell? ⟨g, q + 2, none⟩ = some (.string l[j].tb) ∧ x.cell? ⟨g, q + 3, none⟩ = some (.slice sa l[j].kids.length sc)) ∧
            (x.cell? ⟨g', q', none⟩ = some (.int .i64 l[j].kind) ∧ x.cell? ⟨g', q' + 1, none⟩ = some (.string l[j].ta) ∧ x.cell? ⟨g', q' + 2, none⟩ = some (.string l[j].tb) ∧ x.cell? ⟨g', q' + 3, none⟩ = some (.slice sa' l[j].kids.length sc')) from
          fun x hx => ⟨⟨(hx.cell (p := ⟨g, q, none⟩) hg).trans c0, (hx.cell (p := ⟨g, q + 1, none⟩) hg).trans c1, (hx.cell (p := ⟨g, q + 2, none⟩) hg).trans c2, (hx.cell (p := ⟨g, q + 3, none⟩) hg).trans c3⟩,
            (hx.cell (p := ⟨g', q', none⟩) hg').trans d0, (hx.cell (p := ⟨g', q' + 1, none⟩) hg').trans d1, (hx.cell (p := ⟨g', q' + 2, none⟩) hg').trans d2, (hx.cell (p := ⟨g', q' + 3, none⟩) hg').trans d3⟩)
        clear hb h1 h2 c0 c1 c2 c3 d0 d1 d2 d3 hn hm hg hg' hsm hz hC
        go_wp2_with fail
        refine wp_region_class (C := fun x => Below w.heap.size w x ∧ Box4 w.heap.size n.kind n.ta n.tb (.slice ao l.length cap) x ∧ Box4 (w.heap.size + 1) n.kind n.ta n.tb (.slice bo l.length dap) x) (by kernel_rfl) (by kernel_rfl) ⟨HR.out.1.drew, HR.out.2⟩ ?_
        repeat (first
          | go_big_quiet_skip
          | (go_big_quiet_want
             apply quiet_of
             · intro x hx
               obtain ⟨-, -, -, a3⟩ := hx.2.1.cells
               obtain ⟨-, -, -, b3⟩ := hx.2.2.cells
               obtain ⟨⟨c0, c1, c2, c3⟩, d0, d1, d2, d3⟩ := HN.out x hx.1
               first
                 | (go_simp; rfl)
                 | (clear a3 b3 c0 c1 c2 c3 d0 d1 d2 d3; go_simp; go_at_call 11; refine (HC.out x hx.1).mono ?_; rintro e y ⟨rfl, hy⟩; exact ⟨rfl, hx.1.trans (hy.mono hx.1.size), hx.2.1.on hy, hx.2.2.on hy⟩)
             simp only [Act.put, List.setIfInBounds_toArray, List.set_cons_zero, List.set_cons_succ]
             go_big_quiet_on))
        refine wpQuiet_nil ?_
        intro x hx
        have HX := Lib.hid hx
        clear hx HR
        go_wp2_with fail
        go_roundw
        case rel => exact ⟨j + 1, by omega, by go_num, HX.out⟩
        case measure => simp [intOf]; omega
      · go_wp2_with fail
        go_ret
        exact ⟨rfl, HR.out.1⟩
end Tr
end Go.Proofs.Ytleoknhnglbgoaa
