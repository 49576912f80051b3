/-
  Layer 4 (knot): the number, and the rune, at the front of a text.
-/
import Derived.Test.YtoeaapomjjclaaaDoorInPure
import Derived.Test.YtoeaapomjjclaaaDoorHeld
import Derived.Handy
import Derived.Lib.OthersKept
namespace Go.Proofs.YtoeaapomjjclaaaDoor
open Go.RowKit Go.Sort
namespace Knot

theorem byte_of {s : ByteArray} {k : Nat} {b : UInt8} (h : s.data.toList[k]? = some b) : ∃ hk : k < s.size, s[k]'hk = b := by
  have h1 := (List.getElem?_eq_some_iff.1 h).1
  have hk : k < s.size := by rw [Lib.size_eq]; exact h1
  refine ⟨hk, ?_⟩
  rw [← (List.getElem?_eq_some_iff.1 h).2]
  simp
  rfl

set_option maxHeartbeats 4000000 in
set_option maxRecDepth 100000 in
/-- The number at the front, where one was tied there. -/
theorem number_good_f (n : Nat) (x : List UInt8) (s : ByteArray) (w : World) (hs : s.data.toList = number n ++ x) (hn : n < 10 ^ 16) :
    Calls Tryd.prog 38 #[.string s] w fun e w' => e = .returned (.tuple #[.int .i64 n, .int .i64 ((digits n).length + 1 : Nat)]) ∧ Below w.heap.size w w' := by
  have hlen := digits_len 15 n hn
  have HB := Lib.hid (digits_bytes n)
  have HS := Lib.hid hs
  have hp1 := digits_pos n
  obtain ⟨L, hL⟩ : ∃ L, L = (digits n).length := ⟨_, rfl⟩
  rw [← hL] at hlen hp1 ⊢
  have HL := Lib.hid hL
  clear hs hL
  go_enter Tryd.func38, Tryd.ntmps38
  go_wp2
  go_loopw [2] (fun v wr => ∃ (pos : Nat), v = .int .i64 (value 0 ((digits n).take pos) : Nat) ∧ wr.heap[w.heap.size]? = some (.stringIter s pos) ∧ Below w.heap.size w wr ∧ pos ≤ L) (fun _ wr => s.size - wr.iterPos w.heap.size)
  case atStart => exact ⟨0, by simp [value_nil], World.iter_heap w s 0, (Below.refl _ _).alloc (Nat.le_refl _) _, by omega⟩
  case round =>
    obtain ⟨pos, rfl, hit, hbw, hpl⟩ := hrel
    have hpos0 := iterPos_of hit
    by_cases hp : pos < L
    · have hp' : pos < (digits n).length := by rw [← HL.out]; exact hp
      obtain ⟨d, hd⟩ : ∃ d, d = (digits n)[pos]'hp' := ⟨_, rfl⟩
      have hat : s.data.toList[pos]? = some d := by rw [HS.out, num_at hp', hd]
      obtain ⟨hps, hb⟩ := byte_of hat
      obtain ⟨d0, d1⟩ := HB.out d (by rw [hd]; exact List.getElem_mem _)
      have hnx : ∀ ty, (Instr.next (.pointer (some ⟨w.heap.size, 0, none⟩)) true ty).run Tryd.prog wr = _ := fun ty => Lib.run_next_ascii_at wr w.heap.size s pos ty hit hps (by rw [hb]; omega)
      rw [hb] at hnx
      have hit2 := Lib.iterAt_heap wr w.heap.size s pos (pos + 1) hit
      have hbw2 := Lib.below_iterAt hbw (k := w.heap.size) (Nat.le_refl _) s (pos + 1)
      obtain ⟨W1, hW1⟩ : ∃ W1, W1 = wr.iterAt w.heap.size s (pos + 1) := ⟨_, rfl⟩
      rw [← hW1] at hnx hit2 hbw2
      have hst := pre_step hp'
      rw [← hd] at hst
      have hlt := pre_lt HB.out pos (by omega)
      have hlt2 : 10 ^ pos ≤ 10 ^ 15 := Nat.pow_le_pow_right (by decide) (by omega)
      have hz : ¬ (pos = 0) → ¬ value 0 ((digits n).take pos) = 0 := fun h => pre_pos (by omega) hp'
      obtain ⟨t, ht⟩ : ∃ t, t = d.toNat := ⟨_, rfl⟩
      rw [← ht] at hnx d0 d1 hst
      obtain ⟨q, hq⟩ : ∃ q, q = value 0 ((digits n).take pos) := ⟨_, rfl⟩
      rw [← hq] at hst hlt hz ⊢
      have HT := Lib.hid hst
      have hq2 : q < 10 ^ 15 := by omega
      have HQ := Lib.hid hq
      clear hW1 hit hbw hat hb hd hst hlt hlt2 hq ht
      by_cases h0 : pos = 0
      · subst h0
        have hq0 : q = 0 := by rw [HQ.out]; simp [value_nil]
        subst hq0
        have e59 : ((t : Int) == 59) = false := by simp; omega
        go_wp2
        go_roundw
        case rel => exact ⟨1, by rw [HT.out]; congr 1; omega, hit2, hbw2, by omega⟩
        case measure => rw [iterPos_of hit2, hpos0]; omega
      · have hq0 : ((q : Int) == 0) = false := by have := hz h0; simp; omega
        have e17 : ((pos : Int) == 17) = false := by simp; omega
        have e59 : ((t : Int) == 59) = false := by simp; omega
        clear hz
        go_wp2
        go_roundw
        case rel => exact ⟨pos + 1, by rw [HT.out]; congr 1; omega, hit2, hbw2, by omega⟩
        case measure => rw [iterPos_of hit2, hpos0]; omega
    · have hpe : pos = L := by omega
      subst hpe
      have hat : s.data.toList[pos]? = some 59 := by rw [HS.out, HL.out, num_end]
      obtain ⟨hps, hb⟩ := byte_of hat
      have hnx : ∀ ty, (Instr.next (.pointer (some ⟨w.heap.size, 0, none⟩)) true ty).run Tryd.prog wr = _ := fun ty => Lib.run_next_ascii_at wr w.heap.size s pos ty hit hps (by rw [hb]; decide)
      rw [hb, show ((59 : UInt8).toNat : Int) = 59 from rfl] at hnx
      have hbw2 := Lib.below_iterAt hbw (k := w.heap.size) (Nat.le_refl _) s (pos + 1)
      have hv : value 0 ((digits n).take pos) = n := by rw [HL.out, pre_all]
      rw [hv] at *
      clear hv hat hb hit hbw hp
      go_wp2
      go_ret2
      exact ⟨by congr 1, hbw2⟩

set_option maxHeartbeats 1000000 in
set_option maxRecDepth 100000 in
theorem number_empty (w : World) :
    Calls Tryd.prog 38 #[.string ⟨#[]⟩] w fun e w' => e = .returned (.tuple #[.int .i64 0, .int .i64 0]) ∧ Below w.heap.size w w' := by
  go_enter Tryd.func38, Tryd.ntmps38
  go_wp2
  go_loopw [] (fun wr => wr.heap[w.heap.size]? = some (.stringIter ⟨#[]⟩ 0) ∧ Below w.heap.size w wr) (fun wr => 0)
  case atStart => exact ⟨World.iter_heap w _ 0, (Below.refl _ _).alloc (Nat.le_refl _) _⟩
  case round =>
    obtain ⟨hit, hbw⟩ := hrel
    have hnx : ∀ ty, (Instr.next (.pointer (some ⟨w.heap.size, 0, none⟩)) true ty).run Tryd.prog wr = _ := fun ty => Lib.run_next_end_at wr w.heap.size _ 0 ty hit (by decide)
    go_wp2
    go_ret2
    exact ⟨rfl, hbw⟩

set_option maxHeartbeats 1000000 in
set_option maxRecDepth 100000 in
/-- No digit at the front. -/
theorem number_bad_f (s : ByteArray) (x : List UInt8) (w : World) (hs : s.data.toList = 120 :: x) :
    Calls Tryd.prog 38 #[.string s] w fun e w' => e = .returned (.tuple #[.int .i64 0, .int .i64 0]) ∧ Below w.heap.size w w' := by
  obtain ⟨hps, hb⟩ := byte_of (s := s) (k := 0) (b := 120) (by rw [hs]; rfl)
  clear hs
  go_enter Tryd.func38, Tryd.ntmps38
  go_wp2
  go_loopw [2] (fun v wr => v = .int .i64 0 ∧ wr.heap[w.heap.size]? = some (.stringIter s 0) ∧ Below w.heap.size w wr) (fun _ _ => 0)
  case atStart => exact ⟨rfl, World.iter_heap w _ 0, (Below.refl _ _).alloc (Nat.le_refl _) _⟩
  case round =>
    obtain ⟨rfl, hit, hbw⟩ := hrel
    have hnx : ∀ ty, (Instr.next (.pointer (some ⟨w.heap.size, 0, none⟩)) true ty).run Tryd.prog wr = _ := fun ty => Lib.run_next_ascii_at wr w.heap.size s 0 ty hit hps (by rw [hb]; decide)
    rw [hb, show ((120 : UInt8).toNat : Int) = 120 from rfl] at hnx
    have hbw2 := Lib.below_iterAt hbw (k := w.heap.size) (Nat.le_refl _) s (0 + 1)
    clear hb
    go_wp2
    go_ret2
    exact ⟨rfl, hbw2⟩

set_option maxHeartbeats 2000000 in
set_option maxRecDepth 100000 in
/-- A nought ahead. -/
theorem number_nought (w : World) :
    Calls Tryd.prog 38 #[.string ⟨#[48, 49, 50, 59]⟩] w fun e w' => e = .returned (.tuple #[.int .i64 0, .int .i64 0]) ∧ Below w.heap.size w w' := by
  obtain ⟨s, hs⟩ : ∃ s : ByteArray, s = ⟨#[48, 49, 50, 59]⟩ := ⟨_, rfl⟩
  obtain ⟨p0, b0⟩ := byte_of (s := s) (k := 0) (b := 48) (by rw [hs]; rfl)
  obtain ⟨p1, b1⟩ := byte_of (s := s) (k := 1) (b := 49) (by rw [hs]; rfl)
  have hz : s.size = 4 := by rw [hs]; rfl
  rw [← hs]
  clear hs
  go_enter Tryd.func38, Tryd.ntmps38
  go_wp2
  go_loopw [2] (fun v wr => ∃ pos, v = .int .i64 0 ∧ wr.heap[w.heap.size]? = some (.stringIter s pos) ∧ Below w.heap.size w wr ∧ (pos = 0 ∨ pos = 1)) (fun _ wr => s.size - wr.iterPos w.heap.size)
  case atStart => exact ⟨0, rfl, World.iter_heap w _ 0, (Below.refl _ _).alloc (Nat.le_refl _) _, .inl rfl⟩
  case round =>
    obtain ⟨pos, rfl, hit, hbw, hpp⟩ := hrel
    have hpos0 := iterPos_of hit
    rcases hpp with rfl | rfl
    · have hnx : ∀ ty, (Instr.next (.pointer (some ⟨w.heap.size, 0, none⟩)) true ty).run Tryd.prog wr = _ := fun ty => Lib.run_next_ascii_at wr w.heap.size s 0 ty hit p0 (by rw [b0]; decide)
      rw [b0, show ((48 : UInt8).toNat : Int) = 48 from rfl] at hnx
      have hit2 := Lib.iterAt_heap wr w.heap.size s 0 (0 + 1) hit
      have hbw2 := Lib.below_iterAt hbw (k := w.heap.size) (Nat.le_refl _) s (0 + 1)
      obtain ⟨W1, hW1⟩ : ∃ W1, W1 = wr.iterAt w.heap.size s (0 + 1) := ⟨_, rfl⟩
      rw [← hW1] at hnx hit2 hbw2
      clear hW1 hit hbw b0 b1
      go_wp2
      go_roundw
      case rel => exact ⟨1, rfl, hit2, hbw2, .inr rfl⟩
      case measure => rw [iterPos_of hit2, hpos0]; omega
    · have hnx : ∀ ty, (Instr.next (.pointer (some ⟨w.heap.size, 0, none⟩)) true ty).run Tryd.prog wr = _ := fun ty => Lib.run_next_ascii_at wr w.heap.size s 1 ty hit p1 (by rw [b1]; decide)
      rw [b1, show ((49 : UInt8).toNat : Int) = 49 from rfl] at hnx
      have hbw2 := Lib.below_iterAt hbw (k := w.heap.size) (Nat.le_refl _) s (1 + 1)
      clear hit hbw b0 b1
      go_wp2
      go_ret2
      exact ⟨rfl, hbw2⟩

/-! ### the rune at the front -/
set_option maxHeartbeats 1000000 in
set_option maxRecDepth 100000 in
theorem front_empty (w : World) :
    Calls Tryd.prog 41 #[.string ⟨#[]⟩] w fun e w' => e = .returned (.int .i32 (-1)) ∧ Below w.heap.size w w' := by
  go_enter Tryd.func41, Tryd.ntmps41
  go_wp2
  go_loopw [] (fun wr => wr.heap[w.heap.size]? = some (.stringIter ⟨#[]⟩ 0) ∧ Below w.heap.size w wr) (fun wr => 0)
  case atStart => exact ⟨World.iter_heap w _ 0, (Below.refl _ _).alloc (Nat.le_refl _) _⟩
  case round =>
    obtain ⟨hit, hbw⟩ := hrel
    have hnx : ∀ ty, (Instr.next (.pointer (some ⟨w.heap.size, 0, none⟩)) true ty).run Tryd.prog wr = _ := fun ty => Lib.run_next_end_at wr w.heap.size _ 0 ty hit (by decide)
    go_wp2
    go_ret
    exact ⟨rfl, hbw⟩
set_option maxHeartbeats 1000000 in
set_option maxRecDepth 100000 in
theorem front_byte (s : ByteArray) (c : UInt8) (x : List UInt8) (w : World) (hs : s.data.toList = c :: x) (hc : c.toNat < 128) :
    Calls Tryd.prog 41 #[.string s] w fun e w' => e = .returned (.int .i32 (c.toNat : Int)) ∧ Below w.heap.size w w' := by
  obtain ⟨hps, hb⟩ := byte_of (s := s) (k := 0) (b := c) (by rw [hs]; rfl)
  clear hs
  go_enter Tryd.func41, Tryd.ntmps41
  go_wp2
  go_loopw [] (fun wr => wr.heap[w.heap.size]? = some (.stringIter s 0) ∧ Below w.heap.size w wr) (fun wr => 0)
  case atStart => exact ⟨World.iter_heap w _ 0, (Below.refl _ _).alloc (Nat.le_refl _) _⟩
  case round =>
    obtain ⟨hit, hbw⟩ := hrel
    have hnx : ∀ ty, (Instr.next (.pointer (some ⟨w.heap.size, 0, none⟩)) true ty).run Tryd.prog wr = _ := fun ty => Lib.run_next_ascii_at wr w.heap.size s 0 ty hit hps (by rw [hb]; exact hc)
    rw [hb] at hnx
    have hbw2 := Lib.below_iterAt hbw (k := w.heap.size) (Nat.le_refl _) s (0 + 1)
    clear hb
    go_wp2
    go_ret
    exact ⟨rfl, hbw2⟩
end Knot
end Go.Proofs.YtoeaapomjjclaaaDoor
