/-
  Layer 3 (bond): the document's Good.
-/
import Derived.Test.YtoeaapomjjclaaaDoorBondA
namespace Go.Proofs.YtoeaapomjjclaaaDoor
open Go.RowKit
namespace Bond
open Who (Held kindR_any)

theorem goodR_any (t i r a b c : ByteArray) (w : World) (ht : t.size ≤ 4000000) (hi : i.size ≤ 4000000) (hr : r.size ≤ 4000000) (ha : a.size ≤ 4000000) (hb : b.size ≤ 4000000) (hc : c.size ≤ 4000000) :
    Calls Tryd.prog 32 #[tupV t i r a b c] w fun e w' => e = .returned (.bool (goodB (t.data.toList, i.data.toList, r.data.toList) (a.data.toList, b.data.toList, c.data.toList))) ∧ Below w.heap.size w w' := by
  have h1 := fun w => Ref.name_any t w ht
  have h2 := fun w => Ref.id_any i w hi
  have h3 := fun w => Ref.name_any r w hr
  have h4 := fun w => kindR_any a b c w ha hb hc
  unfold goodB kind3
  dsimp only
  generalize Who.kind a.data.toList b.data.toList c.data.toList = k at *
  generalize Gly.nameB r.data.toList = n3 at *
  generalize Gly.idB i.data.toList = n2 at *
  generalize Gly.nameB t.data.toList = n1 at *
  unfold tupV
  have H4 := Lib.hid h4
  clear h4
  cases n1 with
  | false =>
    have H1 := Lib.hid h1
    clear h1 h2 h3
    go_enter Tryd.func32, Tryd.ntmps32
    go_wp2_with fail
    refine (H1.out _).mono ?_
    rintro e w1 ⟨rfl, rfl⟩
    go_wp2
    go_ret
    exact ⟨rfl, Who.boxed (Below.refl _ _)⟩
  | true =>
    have H1 := Lib.hid h1
    clear h1
    cases n2 with
    | false =>
      have H2 := Lib.hid h2
      clear h2 h3
      go_enter Tryd.func32, Tryd.ntmps32
      go_wp2_with fail
      refine (H1.out _).mono ?_
      rintro e w1 ⟨rfl, rfl⟩
      go_wp2_with fail
      refine (H2.out _).mono ?_
      rintro e w2 ⟨rfl, b2⟩
      go_wp2
      go_ret
      exact ⟨rfl, Who.boxed b2⟩
    | true =>
      have H2 := Lib.hid h2
      clear h2
      cases n3 with
      | false =>
        have H3 := Lib.hid h3
        clear h3
        go_enter Tryd.func32, Tryd.ntmps32
        go_wp2_with fail
        refine (H1.out _).mono ?_
        rintro e w1 ⟨rfl, rfl⟩
        go_wp2_with fail
        refine (H2.out _).mono ?_
        rintro e w2 ⟨rfl, b2⟩
        have I2 := Held.step b2 (Held.one6 w _ _ _ _ _ _ _)
        have q := I2.all
        simp only [List.forall_mem_cons] at q
        clear b2
        obtain ⟨⟨-, k0, -⟩, ⟨-, k1, -⟩, ⟨-, k2, -⟩, ⟨-, k3, -⟩, ⟨-, k4, -⟩, ⟨-, k5, -⟩, -⟩ := q
        go_wp2_with fail
        refine (H3.out _).mono ?_
        rintro e w3 ⟨rfl, rfl⟩
        go_wp2
        go_ret
        exact ⟨rfl, I2.below⟩
      | true =>
        have H3 := Lib.hid h3
        clear h3
        go_enter Tryd.func32, Tryd.ntmps32
        go_wp2_with fail
        refine (H1.out _).mono ?_
        rintro e w1 ⟨rfl, rfl⟩
        go_wp2_with fail
        refine (H2.out _).mono ?_
        rintro e w2 ⟨rfl, b2⟩
        have I2 := Held.step b2 (Held.one6 w _ _ _ _ _ _ _)
        have q := I2.all
        simp only [List.forall_mem_cons] at q
        clear b2
        obtain ⟨⟨-, k0, -⟩, ⟨-, k1, -⟩, ⟨-, k2, -⟩, ⟨-, k3, -⟩, ⟨-, k4, -⟩, ⟨-, k5, -⟩, -⟩ := q
        go_wp2_with fail
        refine (H3.out _).mono ?_
        rintro e w3 ⟨rfl, rfl⟩
        go_wp2_with fail
        refine (H4.out _).mono ?_
        rintro e w4 ⟨rfl, b4⟩
        go_wp2
        go_ret
        exact ⟨by simp, (Held.step b4 I2).below⟩
end Bond
end Go.Proofs.YtoeaapomjjclaaaDoor
