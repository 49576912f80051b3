/-
  Layer 4 (knot): marks, subjects and tuples tied; what Bytes answers. What is asked: the library's table of powers of ten.
-/
import Derived.Test.YtoeaapomjjclaaaDoorKnC
namespace Go.Proofs.YtoeaapomjjclaaaDoor
open Go.RowKit Go.Sort
namespace Knot

set_option maxHeartbeats 4000000 in
set_option maxRecDepth 100000 in
theorem mark_any (B K : Nat) (v : Value) (l : List UInt8) (y : Bool) (w : World) (h : Kn B w K v l) (hs : l.length ≤ 80000000) :
    Calls Tryd.prog 13 #[ptr K, .bool y] w (Tied B K v l (markB y) w) := by
  obtain ⟨i0, T⟩ := isBytes
  have c0 := h.cell
  have f0 := h.frozen
  have H := Lib.hid (And.intro h hs)
  clear h hs
  cases y with
  | false =>
    go_enter Tryd.func13, Tryd.ntmps13
    go_wp2_with (at_builtin; refine walk_row T rfl _ _ rfl rfl rfl (H.out.1.alloc _).own (H.out.1.alloc _).base (m := 1) (news := [.int .u8 45]) rfl (one_new (by simp)) (by intro u' hu'; simp at hu'; subst hu'; rfl) (by have := H.out.2; omega) ?_)
    intro v1 w1 o1 g1 n1
    obtain ⟨a1, p1, rfl⟩ := own_slice o1
    obtain ⟨k1, s1⟩ := (H.out.1.alloc _).put_eq (m := [45]) o1 rfl (by simp [Lib.byteCells]) g1 n1
    obtain ⟨c1, f1⟩ := (H.out.1.alloc _).still g1
    have K1 := Lib.hid (And.intro k1 (s1.after_below ((Below.refl _ _).alloc (Nat.le_refl _) _)))
    clear k1 s1 o1 g1 n1
    go_wp2
    go_end0
    exact ⟨rfl, _, K1.out.1, K1.out.2⟩
  | true =>
    go_enter Tryd.func13, Tryd.ntmps13
    go_wp2_with (at_builtin; refine walk_row T rfl _ _ rfl rfl rfl (H.out.1.alloc _).own (H.out.1.alloc _).base (m := 1) (news := [.int .u8 43]) rfl (one_new (by simp)) (by intro u' hu'; simp at hu'; subst hu'; rfl) (by have := H.out.2; omega) ?_)
    intro v1 w1 o1 g1 n1
    obtain ⟨a1, p1, rfl⟩ := own_slice o1
    obtain ⟨k1, s1⟩ := (H.out.1.alloc _).put_eq (m := [43]) o1 rfl (by simp [Lib.byteCells]) g1 n1
    obtain ⟨c1, f1⟩ := (H.out.1.alloc _).still g1
    have K1 := Lib.hid (And.intro k1 (s1.after_below ((Below.refl _ _).alloc (Nat.le_refl _) _)))
    clear k1 s1 o1 g1 n1
    go_wp2
    go_end0
    exact ⟨rfl, _, K1.out.1, K1.out.2⟩

/-! ### Bytes -/
theorem empty_row (w : World) : (w.alloc (.cells #[] 5)).ownsRow w.heap.size 5 1 (.slice (some ⟨w.heap.size, 0, none⟩) 0 0) 0 [] := World.ownsRow_made w #[] 0 (Nat.le_refl _) (by unfold maxLen; omega) rfl

set_option maxHeartbeats 4000000 in
set_option maxRecDepth 100000 in
theorem clone_bytes (B g cap : Nat) (l : List UInt8) (w : World) (h : w.ownsRow B 5 1 (.slice (some ⟨g, 0, none⟩) l.length cap) l.length (Lib.byteCells l)) (hs : l.length ≤ 90000000) :
    Calls Tryd.prog 37 #[.slice (some ⟨g, 0, none⟩) l.length cap] w fun e x => ∃ v, e = .returned v ∧ x.ownsRow w.heap.size 5 1 v l.length (Lib.byteCells l) ∧ Below w.heap.size w x := by
  obtain ⟨i0, T⟩ := isBytes
  have hc := h.cells (g := g) rfl
  have hlt := (h.lt g rfl).2
  have he : ∀ W : World, (binOp .eql 43 (.slice (some ⟨g, 0, none⟩) l.length cap) (.slice none 0 0)).run Tryd.prog W = .ok (.bool false) W := fun _ => rfl
  have H := Lib.hid (And.intro h hs)
  clear h hs
  go_enter Tryd.func37, Tryd.ntmps37
  go_wp2_with (at_builtin; refine walk_row T rfl _ _ rfl rfl rfl (empty_row w) (by simp) (m := l.length) (news := Lib.byteCells l) (by rw [Lib.byteCells_length]) (fun j u hj => (((Below.refl w.heap.size w).alloc (Nat.le_refl _) _).cell (by rw [Lib.add_plain]; exact hlt)).trans (hc j u hj)) (one_oneCell l) (by have := H.out.2; omega) ?_)
  intro v1 w1 o1 g1 n1
  obtain ⟨a1, p1, rfl⟩ := own_slice o1
  have b1 := ((Below.refl w.heap.size w).alloc (Nat.le_refl _) (.cells #[] 5)).grown g1 (by simp) (fun k hk => by have : w.heap.size = k := Option.some.inj hk; omega)
  go_wp2
  go_ret
  exact ⟨_, rfl, o1, b1⟩

/-- What Bytes answers: its own memory. -/
theorem bytes_any (B K : Nat) (v : Value) (l : List UInt8) (w : World) (h : Kn B w K v l) (h0 : l ≠ []) (hs : l.length ≤ 90000000) :
    Calls Tryd.prog 22 #[ptr K] w fun e x => ∃ g cap, e = .returned (.slice (some ⟨g, 0, none⟩) l.length cap) ∧ x.ownsRow w.heap.size 5 1 (.slice (some ⟨g, 0, none⟩) l.length cap) l.length (Lib.byteCells l) ∧ Below w.heap.size w x := by
  have c0 := h.cell
  have ho := h.own
  have hl : 0 < l.length := List.length_pos_iff.2 h0
  rcases ho.2 with ⟨-, e0⟩ | ⟨g, cap, cur, rfl, -⟩
  · omega
  have HC := Lib.hid (clone_bytes B g cap l w ho hs)
  have HL := Lib.hid hl
  clear h ho hl hs h0
  go_enter Tryd.func22, Tryd.ntmps22
  go_wp2_with fail
  refine HC.out.mono ?_
  rintro e w1 ⟨v1, rfl, o1, b1⟩
  have hl := HL.out
  rcases o1.2 with ⟨-, e0⟩ | ⟨g1, p1, cur, rfl, -⟩
  · omega
  go_wp2
  go_ret
  exact ⟨_, _, rfl, o1, b1⟩
/-- Bytes that are owned, as a text. -/
theorem conv_bytes {b g cap : Nat} {l : List UInt8} {w : World} (h : w.ownsRow b 5 1 (.slice (some ⟨g, 0, none⟩) l.length cap) l.length (Lib.byteCells l)) :
    (Go.convert 43 9 (.slice (some ⟨g, 0, none⟩) l.length cap)).run Tryd.prog w = .ok (.string (Who.bs l)) w :=
  run_convert_bytes_back (P := Tryd.prog) w 43 9 5 ⟨g, 0, none⟩ cap l Tryd.underlying43 Tryd.underlying5 Tryd.underlying9 (fun j hj => h.cells (g := g) rfl j _ (by simp [Lib.byteCells, hj]))
end Knot
end Go.Proofs.YtoeaapomjjclaaaDoor
