/-
  Layer 5 (tract): Build, at every node that is soon gone through.
-/
import Derived.Test.YtopncohhagebbaaGreatDoorTrBuild
import Derived.Test.YtopncohhagebbaaGreatDoorTrNum
namespace Go.Proofs.YtopncohhagebbaaGreatDoor
open Go.RowKit
namespace Tr

abbrev two (u v : Value) : Value := .tuple #[u, v]
theorem err_cases (n : Nd) : (errOf n = 2 ∧ good n = false) ∨ (errOf n = 3 ∧ good n = true ∧ 24 < size n) ∨ (errOf n = 12 ∧ good n = true ∧ size n ≤ 24 ∧ 8 < depth n) ∨ (errOf n = 0 ∧ good n = true ∧ size n ≤ 24 ∧ depth n ≤ 8) := by
  unfold errOf
  cases hg : good n with
  | false => exact .inl ⟨by simp, rfl⟩
  | true =>
    by_cases h1 : 24 < size n
    · exact .inr (.inl ⟨by simp [h1], rfl, h1⟩)
    · by_cases h2 : 8 < depth n
      · exact .inr (.inr (.inl ⟨by simp [h1, h2], rfl, by omega, h2⟩))
      · exact .inr (.inr (.inr ⟨by simp [h1, h2], rfl, by omega, by omega⟩))

set_option maxHeartbeats 2000000 in
set_option maxRecDepth 100000 in
theorem Build_any (n : Nd) (v : Value) (w : World) (hz : size n ≤ 900) (hn : IsNode w n v) :
    Calls Tryz.prog 61 #[v] w fun e x => Below w.heap.size w x ∧ ((errOf n ≠ 0 ∧ e = .returned (two .nilIface (.int .i64 (errOf n)))) ∨ (errOf n = 0 ∧ ∃ u, e = .returned (two u (.int .i64 0)) ∧ IsExpr w.heap.size x n u)) := by
  obtain ⟨ao, cap, vs, rfl, -, -⟩ := hn.kids
  have HG := Lib.hid (fun x (hb : Below w.heap.size w x) => good_any n _ x hz (hn.below hb))
  have HS := Lib.hid (fun x (hb : Below w.heap.size w x) => size_any n _ x hz (hn.below hb))
  have HD := Lib.hid (fun x (hb : Below w.heap.size w x) => depth_any n _ x hz (hn.below hb))
  have HBu := Lib.hid (fun (h24 : size n ≤ 24) (hg : good n = true) x (hb : Below w.heap.size w x) => build_any (size n) n _ x (Nat.le_refl _) (by omega) hg (hn.below hb))
  have hB0 : Below w.heap.size w (w.alloc (.cells #[.int .i64 n.kind, .string n.ta, .string n.tb, .slice ao n.kids.length cap] 47)) := (Below.refl _ _).alloc (Nat.le_refl _) _
  have H0 := Lib.hid (And.intro hB0 (Box4.new w n.kind n.ta n.tb (.slice ao n.kids.length cap)))
  have hds := depth_le n
  clear hn hB0
  rcases err_cases n with ⟨he, hg⟩ | ⟨he, hg, h1⟩ | ⟨he, hg, h1, h2⟩ | ⟨he, hg, h1, h2⟩
  · have HE := Lib.hid he
    rw [hg] at HG
    clear he hg HBu
    go_enter Tryz.func61, Tryz.ntmps61
    go_wp2_with fail
    refine (HG.out _ H0.out.1).mono ?_
    rintro e x ⟨rfl, hx⟩
    go_wp2_with fail
    go_ret2
    exact ⟨H0.out.1.trans (hx.mono H0.out.1.size), .inl ⟨by rw [HE.out]; omega, by rw [HE.out]; rfl⟩⟩
  · have HE := Lib.hid he
    rw [hg] at HG
    clear he hg HBu
    go_enter Tryz.func61, Tryz.ntmps61
    go_wp2_with fail
    refine (HG.out _ H0.out.1).mono ?_
    rintro e x ⟨rfl, hx⟩
    have H1 := Lib.hid (And.intro (H0.out.1.trans (hx.mono H0.out.1.size)) (H0.out.2.on hx))
    obtain ⟨b0, b1, b2, b3⟩ := H1.out.2.cells
    clear hx
    go_wp2_with fail
    refine (HS.out _ H1.out.1).mono ?_
    rintro e y ⟨rfl, hy⟩
    go_wp2_with fail
    go_ret2
    exact ⟨H1.out.1.trans (hy.mono H1.out.1.size), .inl ⟨by rw [HE.out]; omega, by rw [HE.out]; rfl⟩⟩
  · have HE := Lib.hid he
    rw [hg] at HG
    clear he hg HBu
    go_enter Tryz.func61, Tryz.ntmps61
    go_wp2_with fail
    refine (HG.out _ H0.out.1).mono ?_
    rintro e x ⟨rfl, hx⟩
    have H1 := Lib.hid (And.intro (H0.out.1.trans (hx.mono H0.out.1.size)) (H0.out.2.on hx))
    obtain ⟨b0, b1, b2, b3⟩ := H1.out.2.cells
    clear hx
    go_wp2_with fail
    refine (HS.out _ H1.out.1).mono ?_
    rintro e y ⟨rfl, hy⟩
    have H2 := Lib.hid (And.intro (H1.out.1.trans (hy.mono H1.out.1.size)) (H1.out.2.on hy))
    clear hy b0 b1 b2 b3
    obtain ⟨b0, b1, b2, b3⟩ := H2.out.2.cells
    go_wp2_with fail
    refine (HD.out _ H2.out.1).mono ?_
    rintro e z ⟨rfl, hz⟩
    go_wp2_with fail
    go_ret2
    exact ⟨H2.out.1.trans (hz.mono H2.out.1.size), .inl ⟨by rw [HE.out]; omega, by rw [HE.out]; rfl⟩⟩
  · have HE := Lib.hid he
    have HB2 := Lib.hid (HBu.out h1 hg)
    rw [hg] at HG
    clear he hg HBu
    go_enter Tryz.func61, Tryz.ntmps61
    go_wp2_with fail
    refine (HG.out _ H0.out.1).mono ?_
    rintro e x ⟨rfl, hx⟩
    have H1 := Lib.hid (And.intro (H0.out.1.trans (hx.mono H0.out.1.size)) (H0.out.2.on hx))
    obtain ⟨b0, b1, b2, b3⟩ := H1.out.2.cells
    clear hx
    go_wp2_with fail
    refine (HS.out _ H1.out.1).mono ?_
    rintro e y ⟨rfl, hy⟩
    have H2 := Lib.hid (And.intro (H1.out.1.trans (hy.mono H1.out.1.size)) (H1.out.2.on hy))
    clear hy b0 b1 b2 b3
    obtain ⟨b0, b1, b2, b3⟩ := H2.out.2.cells
    go_wp2_with fail
    refine (HD.out _ H2.out.1).mono ?_
    rintro e z ⟨rfl, hz⟩
    have H3 := Lib.hid (And.intro (H2.out.1.trans (hz.mono H2.out.1.size)) (H2.out.2.on hz))
    clear hz b0 b1 b2 b3
    obtain ⟨b0, b1, b2, b3⟩ := H3.out.2.cells
    go_wp2_with fail
    refine (HB2.out _ H3.out.1).mono ?_
    rintro e z' ⟨u, rfl, hu, hz'⟩
    have H4 := Lib.hid (And.intro hu hz')
    obtain ⟨ut, uv, rfl⟩ := hu.iface
    clear hu hz'
    go_wp2_with fail
    go_ret2
    exact ⟨H3.out.1.trans (H4.out.2.mono H3.out.1.size), .inr ⟨HE.out, _, rfl, H4.out.1.mono H3.out.1.size⟩⟩
end Tr
end Go.Proofs.YtopncohhagebbaaGreatDoor
