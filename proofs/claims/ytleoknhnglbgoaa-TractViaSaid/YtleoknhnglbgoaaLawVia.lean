/-
  The statement TractVia at every node.
-/
import Derived.Test.YtleoknhnglbgoaaTrAwake
import Derived.Test.YtleoknhnglbgoaaTrVia
import Derived.Test.YtleoknhnglbgoaaTrRefA
namespace Go.Proofs.Ytleoknhnglbgoaa
open Go.RowKit
namespace Tr

set_option maxHeartbeats 4000000 in
set_option maxRecDepth 100000 in
theorem via_far (n : Nd) (v : Value) (w : World) (hn : IsNode w n v) (hz : ¬ size n ≤ 300) :
    Calls Try.prog 5 #[v] w fun e x => e = .returned (.bool true) ∧ Below w.heap.size w x := by
  obtain ⟨ao, cap, vs, rfl, -, -⟩ := hn.kids
  have HA := Lib.hid (fun x => awake_any x)
  have HF := Lib.hid (show ∀ x, Below w.heap.size w x → Calls Try.prog 8 #[node4 n.kind n.ta n.tb (.slice ao n.kids.length cap)] x fun e y => e = .returned (.bool false) ∧ Below x.heap.size x y from fun x hx => by
    have := few_any n _ x (hn.below hx)
    rwa [decide_eq_false hz] at this)
  have H0 := Lib.hid (And.intro (fresh_one w (.cells #[.int .i64 n.kind, .string n.ta, .string n.tb, .slice ao n.kids.length cap] 24)) (Box4.new w n.kind n.ta n.tb (.slice ao n.kids.length cap)))
  clear hn hz
  go_enter Try.func5, Try.ntmps5
  go_wp2_with fail
  refine (HA.out _).mono ?_
  rintro e x ⟨rfl, hx⟩
  have H1 := Lib.hid (And.intro (H0.out.1.trans (hx.mono H0.out.1.size)) (H0.out.2.on hx))
  obtain ⟨b0, b1, b2, b3⟩ := H1.out.2.cells
  clear hx
  go_wp2_with fail
  refine (HF.out _ H1.out.1).mono ?_
  rintro e y ⟨rfl, hy⟩
  have H2 := Lib.hid (H1.out.1.trans (hy.mono H1.out.1.size))
  clear hy
  go_wp2_with fail
  refine (HA.out _).mono ?_
  rintro e z ⟨rfl, hz⟩
  go_wp2_with fail
  go_ret
  exact ⟨rfl, H2.out.trans (hz.mono H2.out.size)⟩

set_option maxHeartbeats 8000000 in
set_option maxRecDepth 100000 in
theorem via_near (n : Nd) (v : Value) (w : World) (hn : IsNode w n v) (hz : size n ≤ 300) :
    Calls Try.prog 5 #[v] w fun e x => e = .returned (.bool true) ∧ Below w.heap.size w x := by
  obtain ⟨ao, cap, vs, rfl, -, -⟩ := hn.kids
  have HA := Lib.hid (fun x => awake_any x)
  have HF := Lib.hid (show ∀ x, Below w.heap.size w x → Calls Try.prog 8 #[node4 n.kind n.ta n.tb (.slice ao n.kids.length cap)] x fun e y => e = .returned (.bool true) ∧ Below x.heap.size x y from fun x hx => by
    have := few_any n _ x (hn.below hx)
    rwa [decide_eq_true hz] at this)
  have HB := Lib.hid (fun x (hx : Below w.heap.size w x) => Build_any n _ x hz (hn.below hx))
  have H0 := Lib.hid (And.intro (fresh_one w (.cells #[.int .i64 n.kind, .string n.ta, .string n.tb, .slice ao n.kids.length cap] 24)) (Box4.new w n.kind n.ta n.tb (.slice ao n.kids.length cap)))
  clear hn hz
  go_enter Try.func5, Try.ntmps5
  go_wp2_with fail
  refine (HA.out _).mono ?_
  rintro e x1 ⟨rfl, hx⟩
  have H1 := Lib.hid (And.intro (H0.out.1.trans (hx.mono H0.out.1.size)) (H0.out.2.on hx))
  obtain ⟨b0, b1, b2, b3⟩ := H1.out.2.cells
  clear hx H0
  go_wp2_with fail
  refine (HF.out _ H1.out.1).mono ?_
  rintro e x2 ⟨rfl, hy⟩
  have H2 := Lib.hid (And.intro (H1.out.1.trans (hy.mono H1.out.1.size)) (H1.out.2.on hy))
  clear hy b0 b1 b2 b3 H1
  obtain ⟨b0, b1, b2, b3⟩ := H2.out.2.cells
  go_wp2_with fail
  refine (HB.out _ H2.out.1).mono ?_
  rintro e x3 ⟨hb3, ⟨hne, rfl⟩ | ⟨he0, u, rfl, hu⟩⟩
  · have hE : (errOf n != 0) = true := by simpa using hne
    have H3 := Lib.hid (H2.out.1.trans (hb3.mono H2.out.1.size))
    generalize errOf n = E at *
    clear hb3 hne HB HF HA b0 b1 b2 b3
    go_wp2_with fail
    go_ret
    exact ⟨by rfl, H3.out⟩
  · obtain ⟨ut, uv, rfl⟩ := hu.iface
    have hg : good n = true := by
      rcases err_cases n with ⟨h, -⟩ | ⟨h, -⟩ | ⟨h, -⟩ | ⟨-, h, -⟩
      · omega
      · omega
      · omega
      · exact h
    have H3 := Lib.hid (And.intro (H2.out.1.trans (hb3.mono H2.out.1.size)) (And.intro (H2.out.2.on hb3) hu))
    clear hb3 he0 b0 b1 b2 b3 H2 hu HB HF HA
    by_cases hk : n.kind = 3
    · cases n with
      | mk k a b l =>
      obtain rfl : k = 3 := hk
      have hi := H3.out.2.2
      rw [IsExpr] at hi
      simp at hi
      obtain ⟨rfl, rfl⟩ := hi
      obtain ⟨hsa, hsb⟩ := (good_words hg).2 rfl
      have HQ := Lib.hid (fun x => asks_hit a b x hsa hsb)
      have HX := Lib.hid (show ∀ x, Box4 w.heap.size 3 a b (.slice ao l.length cap) x → x.cell? ⟨w.heap.size, 0, none⟩ = some (.int .i64 3) ∧ x.cell? ⟨w.heap.size, 1, none⟩ = some (.string a) ∧ x.cell? ⟨w.heap.size, 2, none⟩ = some (.string b) from fun x hx => ⟨hx.cells.1, hx.cells.2.1, hx.cells.2.2.1⟩)
      clear hg hsa hsb
      change Hid (Below w.heap.size w x3 ∧ Box4 w.heap.size 3 a b (.slice ao l.length cap) x3 ∧ _) at H3
      go_wp2_with fail
      refine (HQ.out _).mono ?_
      rintro e x4 ⟨rfl, hb4⟩
      have H4 := Lib.hid (H3.out.1.trans (hb4.mono H3.out.1.size))
      have al := (H3.out.2.1.on hb4).on (fresh_one x4 (.cells #[.string a, .string b] 46))
      obtain ⟨c0, c1, c2⟩ := HX.out _ al
      clear hb4 al
      go_wp2_with fail
      go_ret
      exact ⟨by simp, H4.out.alloc H4.out.size _⟩
    · have HQ := Lib.hid (fun x (hx : Below x3.heap.size x3 x) => asks_none n _ x hk ((H3.out.2.2.mono (Nat.zero_le _)).below hx))
      have hk2 : (n.kind == 3) = false := by simpa using hk
      go_wp2_with fail
      refine (HQ.out _ (Below.refl _ _)).mono ?_
      rintro e x4 ⟨rfl, hb4⟩
      have H4 := Lib.hid (H3.out.1.trans (hb4.mono H3.out.1.size))
      have al := (H3.out.2.1.on hb4).on (fresh_one x4 (.cells #[.string ⟨#[]⟩, .string ⟨#[]⟩] 46))
      obtain ⟨c0, c1, c2, c3⟩ := al.cells
      clear hb4 al
      go_wp2_with fail
      go_ret
      exact ⟨by rfl, H4.out.alloc H4.out.size _⟩
end Tr
namespace LawVia
open Tr
theorem walk (n : Nd) (v : Value) (w : World) (hn : IsNode w n v) :
    Calls Try.prog 5 #[v] w fun e x => e = .returned (.bool true) ∧ Below w.heap.size w x := by
  by_cases hz : size n ≤ 300
  · exact via_near n v w hn hz
  · exact via_far n v w hn hz
end LawVia
end Go.Proofs.Ytleoknhnglbgoaa
