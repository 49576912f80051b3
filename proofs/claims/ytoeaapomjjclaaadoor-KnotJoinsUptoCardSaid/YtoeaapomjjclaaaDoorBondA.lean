/-
  Layer 3 (bond), first part: whether a tuple is good: what who.Good, bond.Good and the document's Good answer.
-/
import Derived.Test.YtoeaapomjjclaaaDoorWhoA
import Derived.Test.YtoeaapomjjclaaaDoorHeld
import Derived.Test.YtoeaapomjjclaaaDoorBondPure
namespace Go.Proofs.YtoeaapomjjclaaaDoor
open Go.RowKit
namespace Bond
open Who (bcell boxed Held)

/-- A tuple as a value. -/
def tupV (t i r a b c : ByteArray) : Value := .agg #[.string t, .string i, .string r, .string a, .string b, .string c]

theorem Held.one6 (w : World) (T : TypeId) (a0 a1 a2 a3 a4 a5 : Value) :
    Held w [(⟨w.heap.size, 0, none⟩, a0), (⟨w.heap.size, 1, none⟩, a1), (⟨w.heap.size, 2, none⟩, a2), (⟨w.heap.size, 3, none⟩, a3), (⟨w.heap.size, 4, none⟩, a4), (⟨w.heap.size, 5, none⟩, a5)] (w.alloc (.cells #[a0, a1, a2, a3, a4, a5] T)) := by
  refine ⟨((Below.refl _ _).alloc (Nat.le_refl _) _), ?_⟩
  simp only [List.forall_mem_cons]
  simp
theorem Held.more6 {w x : World} {L : List (Addr × Value)} (h : Held w L x) (T : TypeId) (b0 b1 b2 b3 b4 b5 : Value) :
    Held w ((⟨x.heap.size, 0, none⟩, b0) :: (⟨x.heap.size, 1, none⟩, b1) :: (⟨x.heap.size, 2, none⟩, b2) :: (⟨x.heap.size, 3, none⟩, b3) :: (⟨x.heap.size, 4, none⟩, b4) :: (⟨x.heap.size, 5, none⟩, b5) :: L) (x.alloc (.cells #[b0, b1, b2, b3, b4, b5] T)) := by
  refine ⟨h.1.alloc h.1.size _, ?_⟩
  have hs := (Held.step ((Below.refl x.heap.size x).alloc (Nat.le_refl _) (.cells #[b0, b1, b2, b3, b4, b5] T)) h).2
  simp only [List.forall_mem_cons]
  refine ⟨?_, ?_, ?_, ?_, ?_, ?_, hs⟩ <;> simp

theorem bne_pos : ∀ n : Nat, (n != 0) = decide (0 < n)
  | 0 => rfl
  | n + 1 => by simp

theorem goodO_free (t i : ByteArray) (w : World) :
    Calls Tryd.prog 52 #[.agg #[.string t, .string i]] w fun e w' => e = .returned (.bool (Gly.nameB t.data.toList && Gly.idB i.data.toList)) ∧ Below w.heap.size w w' := by
  have h1 := fun w => Gl.name_free t w
  have h2 := fun w => Gl.id_free i w
  cases n1 : Gly.nameB t.data.toList with
  | false =>
    rw [n1] at h1
    have H1 := Lib.hid h1
    clear h1 h2 n1
    go_enter Tryd.func52, Tryd.ntmps52
    go_wp2_with (go_at_call 53; refine (H1.out _).mono ?_; rintro e w1 ⟨rfl, b1⟩)
    go_ret
    exact ⟨rfl, boxed b1⟩
  | true =>
    rw [n1] at h1
    have H1 := Lib.hid h1
    have H2 := Lib.hid h2
    clear h1 h2 n1
    generalize Gly.idB i.data.toList = n2 at *
    go_enter Tryd.func52, Tryd.ntmps52
    go_wp2_with (go_at_call 53; refine (H1.out _).mono ?_; rintro e w1 ⟨rfl, b1⟩; obtain ⟨hc, hf⟩ := bcell b1)
    go_wp2_with (go_at_call 57; refine (H2.out _).mono ?_; rintro e w2 ⟨rfl, b2⟩)
    go_ret
    exact ⟨rfl, boxed (b1.trans (b2.mono b1.size))⟩

theorem good_free (t i r a b c : ByteArray) (w : World) :
    Calls Tryd.prog 44 #[tupV t i r a b c] w fun e w' => e = .returned (.bool (goodB (t.data.toList, i.data.toList, r.data.toList) (a.data.toList, b.data.toList, c.data.toList))) ∧ Below w.heap.size w w' := by
  have h1 := fun w => goodO_free t i w
  have h2 := fun w => Gl.name_free r w
  have h3 := fun w => Who.subj_free a b c w
  rw [show Who.subjB a.data.toList b.data.toList c.data.toList = decide (0 < kind3 (a.data.toList, b.data.toList, c.data.toList)) by rw [Who.subj_eq]; exact bne_pos _] at h3
  unfold goodB
  dsimp only
  generalize decide (0 < kind3 (a.data.toList, b.data.toList, c.data.toList)) = n3 at *
  generalize Gly.nameB r.data.toList = n2 at *
  generalize (Gly.nameB t.data.toList && Gly.idB i.data.toList) = n1 at *
  unfold tupV
  have H3 := Lib.hid h3
  clear h3
  cases n1 with
  | false =>
    have H1 := Lib.hid h1
    clear h1 h2
    go_enter Tryd.func44, Tryd.ntmps44
    go_wp2_with (go_at_call 52; refine (H1.out _).mono ?_; rintro e w1 ⟨rfl, b1⟩)
    go_ret
    exact ⟨rfl, boxed b1⟩
  | true =>
    have H1 := Lib.hid h1
    clear h1
    cases n2 with
    | false =>
      have H2 := Lib.hid h2
      clear h2
      go_enter Tryd.func44, Tryd.ntmps44
      go_wp2_with (go_at_call 52; refine (H1.out _).mono ?_; rintro e w1 ⟨rfl, b1⟩; obtain ⟨hc, hf⟩ := bcell b1)
      go_wp2_with (go_at_call 53; refine (H2.out _).mono ?_; rintro e w2 ⟨rfl, b2⟩)
      go_ret
      exact ⟨rfl, boxed (b1.trans (b2.mono b1.size))⟩
    | true =>
      have H2 := Lib.hid h2
      clear h2
      go_enter Tryd.func44, Tryd.ntmps44
      go_wp2_with fail
      refine (H1.out _).mono ?_
      rintro e w1 ⟨rfl, b1⟩
      have I1 := Held.step b1 (Held.one6 w _ _ _ _ _ _ _)
      have q := I1.all
      simp only [List.forall_mem_cons] at q
      obtain ⟨⟨-, k0, -⟩, ⟨-, k1, -⟩, ⟨-, k2, -⟩, ⟨-, k3, -⟩, ⟨-, k4, -⟩, ⟨-, k5, -⟩, -⟩ := q
      clear b1
      go_wp2_with fail
      refine (H2.out _).mono ?_
      rintro e w2 ⟨rfl, b2⟩
      have I2 := Held.step b2 I1
      have q := I2.all
      simp only [List.forall_mem_cons] at q
      clear b2 k0 k1 k2 k3 k4 k5
      obtain ⟨⟨-, k0, -⟩, ⟨-, k1, -⟩, ⟨-, k2, -⟩, ⟨-, k3, -⟩, ⟨-, k4, -⟩, ⟨-, k5, -⟩, -⟩ := q
      go_wp2_with fail
      refine (H3.out _).mono ?_
      rintro e w3 ⟨rfl, b3⟩
      go_wp2
      go_ret
      exact ⟨rfl, (Held.step b3 I2).below⟩
end Bond
end Go.Proofs.YtoeaapomjjclaaaDoor
