/-
  Layer 4 (knot): what ties bytes, numbers, texts and marks to a knot, and what Bytes answers. What is asked: the library's table of powers of ten.
-/
import Derived.Test.YtoeaapomjjclaaaDoorKnB
namespace Go.Proofs.YtoeaapomjjclaaaDoor
open Go.RowKit Go.Sort
namespace Knot

abbrev ptr (K : Nat) : Value := .pointer (some ⟨K, 0, none⟩)
/-- What a call answers that ties m. -/
def Tied (B K : Nat) (v : Value) (l m : List UInt8) (w : World) (e : Ending) (x : World) : Prop :=
  e = .returned (.tuple #[]) ∧ ∃ v', Kn B x K v' (l ++ m) ∧ KStep K v v' w x

theorem new_any (w : World) : Calls Tryd.prog 9 #[] w fun e x => ∃ K, e = .returned (ptr K) ∧ K = w.heap.size ∧ Kn w.heap.size x K (.slice none 0 0) [] ∧ Below w.heap.size w x := by
  go_enter Tryd.func9, Tryd.ntmps9
  go_wp2
  go_ret
  exact ⟨_, rfl, rfl, ⟨Nat.le_refl _, by rw [heap_alloc_new], World.ownsRow_nil _ _ _ _⟩, (Below.refl _ _).alloc (Nat.le_refl _) _⟩

set_option maxHeartbeats 4000000 in
set_option maxRecDepth 100000 in
theorem num_any (B K u : Nat) (v : Value) (l : List UInt8) (w : World) (h : Kn B w K v l) (hu : u < 9223372036854775808) (hs : l.length ≤ 80000000) (htab : Tab B w) :
    Calls Tryd.prog 35 #[ptr K, .int .i64 u] w (Tied B K v l (number u) w) := by
  obtain ⟨i0, T⟩ := isBytes
  have hd := len_digits (n := u) (by omega)
  have c0 := h.cell
  have f0 := h.frozen
  have H := Lib.hid h
  have HI := Lib.hid (int_any B l.length u hu v (Lib.byteCells l) w h.own h.base (by omega) htab)
  clear htab h
  go_enter Tryd.func35, Tryd.ntmps35
  go_wp2_with fail
  refine HI.out.mono ?_
  rintro e w1 ⟨v1, rfl, o1, g1, n1⟩
  obtain ⟨a1, p1, rfl⟩ := own_slice o1
  obtain ⟨k1, s1⟩ := H.out.put o1 g1 n1
  obtain ⟨c1, f1⟩ := H.out.still g1
  have K1 := Lib.hid (And.intro k1 s1)
  clear k1 s1 o1 g1 n1
  go_wp2_with (at_builtin; refine walk_row T rfl _ _ rfl rfl rfl (K1.out.1.alloc _).own (K1.out.1.alloc _).base (m := 1) (news := [.int .u8 59]) rfl (one_new (by simp)) (by intro u' hu'; simp at hu'; subst hu'; rfl) (by rw [List.length_append]; omega) ?_)
  intro v2 y o2 g2 n2
  obtain ⟨a2, p2, rfl⟩ := own_slice o2
  obtain ⟨k2, s2⟩ := (K1.out.1.alloc _).put_eq (m := [59]) o2 (by simp) (by simp [Lib.byteCells]) g2 n2
  obtain ⟨c2, f2⟩ := (K1.out.1.alloc _).still g2
  have K2 := Lib.hid (And.intro k2 (K1.out.2.trans (s2.after_below ((Below.refl _ _).alloc (Nat.le_refl _) _))))
  clear k2 s2 o2 g2 n2 K1
  go_wp2
  go_end0
  refine ⟨rfl, _, ?_, K2.out.2⟩
  rw [number, ← List.append_assoc]
  exact K2.out.1

theorem Tied.mono_eq {B K : Nat} {v : Value} {l m m' : List UInt8} {w x : World} {e : Ending} (h : Tied B K v l m w e x) (hm : m = m') : Tied B K v l m' w e x := hm ▸ h

set_option maxHeartbeats 4000000 in
set_option maxRecDepth 100000 in
/-- Number: what is told, and what is tied. -/
theorem number_good (B K u : Nat) (v : Value) (l : List UInt8) (w : World) (h : Kn B w K v l) (hu : u ≤ 9007199254740992) (hs : l.length ≤ 80000000) (htab : Tab B w) :
    Calls Tryd.prog 10 #[ptr K, .int .i64 u] w fun e x => e = .returned (.int .i64 0) ∧ ∃ v', Kn B x K v' (l ++ number u) ∧ KStep K v v' w x := by
  have HI := Lib.hid (num_any B K u v l w h (by omega) hs htab)
  clear htab h
  go_enter Tryd.func10, Tryd.ntmps10
  go_wp2_with fail
  refine HI.out.mono ?_
  rintro e w1 ⟨rfl, h1⟩
  go_wp2
  go_ret
  exact ⟨rfl, h1⟩
theorem number_bad (K : Nat) (u : Int) (w : World) (hu : u < 0 ∨ 9007199254740992 < u) :
    Calls Tryd.prog 10 #[ptr K, .int .i64 u] w fun e x => e = .returned (.int .i64 1) ∧ x = w := by
  rcases hu with hu | hu
  · go_enter Tryd.func10, Tryd.ntmps10
    go_wp2
    go_ret
    exact ⟨rfl, rfl⟩
  · have h0 : ¬ u < 0 := by omega
    go_enter Tryd.func10, Tryd.ntmps10
    go_wp2
    go_ret
    exact ⟨rfl, rfl⟩

set_option maxHeartbeats 4000000 in
set_option maxRecDepth 100000 in
theorem text_any (B K : Nat) (v : Value) (l : List UInt8) (s : ByteArray) (w : World) (h : Kn B w K v l) (hs : l.length ≤ 70000000) (hz : s.size ≤ 4000000) (htab : Tab B w) :
    Calls Tryd.prog 12 #[ptr K, .string s] w (Tied B K v l (textB s.data.toList) w) := by
  obtain ⟨i0, T⟩ := isBytes
  have hd := len_digits (n := s.size) (by omega)
  have hn := num_any B K s.size v l w h (by omega) (by omega) htab
  have HN := Lib.hid hn
  clear htab h hn
  go_enter Tryd.func12, Tryd.ntmps12
  go_wp2_with fail
  refine HN.out.mono ?_
  rintro e w1 ⟨rfl, v1, k1, s1⟩
  have c1 := k1.cell
  have f1 := k1.frozen
  have hl1 : (l ++ number s.size).length ≤ 70000021 := by rw [List.length_append, number, List.length_append, List.length_singleton]; omega
  have K1 := Lib.hid (And.intro k1 (And.intro s1 hl1))
  clear k1 s1 hl1 HN hd
  go_wp2_with (at_builtin; refine walk_text T Tryd.underlying9 rfl _ _ rfl rfl rfl K1.out.1.own K1.out.1.base (by have := K1.out.2.2; omega) ?_)
  intro v2 w2 o2 g2 n2
  obtain ⟨a2, p2, rfl⟩ := own_slice o2
  obtain ⟨k2, s2⟩ := K1.out.1.put_eq (m := s.data.toList) o2 (by rw [← Lib.size_eq]; simp) (by simp [Lib.byteCells]) g2 n2
  obtain ⟨c2, f2⟩ := K1.out.1.still g2
  have hl2 : (l ++ number s.size ++ s.data.toList).length ≤ 74000021 := by have := K1.out.2.2; rw [List.length_append, ← Lib.size_eq]; omega
  have K2 := Lib.hid (And.intro k2 (And.intro (K1.out.2.1.trans s2) hl2))
  clear k2 s2 o2 g2 n2 K1 hl2 c1 f1
  go_wp2_with (at_builtin; refine walk_row T rfl _ _ rfl rfl rfl (K2.out.1.alloc _).own (K2.out.1.alloc _).base (m := 1) (news := [.int .u8 44]) rfl (one_new (by simp)) (by intro u' hu'; simp at hu'; subst hu'; rfl) (by have := K2.out.2.2; omega) ?_)
  intro v3 y o3 g3 n3
  obtain ⟨a3, p3, rfl⟩ := own_slice o3
  obtain ⟨k3, s3⟩ := (K2.out.1.alloc _).put_eq (m := [44]) o3 (by rw [List.length_append, List.length_append, ← Lib.size_eq, List.length_singleton]; omega) (by simp [Lib.byteCells]) g3 n3
  obtain ⟨c3, f3⟩ := (K2.out.1.alloc _).still g3
  have K3 := Lib.hid (And.intro k3 (K2.out.2.1.trans (s3.after_below ((Below.refl _ _).alloc (Nat.le_refl _) _))))
  clear k3 s3 o3 g3 n3 K2
  go_wp2
  go_end0
  refine ⟨rfl, _, ?_, K3.out.2⟩
  rw [textB, ← Lib.size_eq, ← List.append_assoc, ← List.append_assoc]
  exact K3.out.1
end Knot
end Go.Proofs.YtoeaapomjjclaaaDoor
