/-
  Plain mathematics under layer 4 (knot): the value of a number's first digits. No program is named here.
  Layer 4 (knot): the number, and the rune, at the front of a text.
  Layer 4 (knot): an untying: what it holds; how numbers are taken, and how it fails.
  Layer 4 (knot): texts and marks taken, what is left, and whether it ended right.
-/
import Derived.Test.YtopncohhagebbaaDoorKnotPure
import Derived.Test.YtopncohhagebbaaDoorMgMem
import Derived.Handy
import Derived.Lib.OthersKept
namespace Go.Proofs.YtopncohhagebbaaDoor.Knot
open Go Gly

theorem pre_step {l : List UInt8} {k : Nat} (hk : k < l.length) : value 0 (l.take (k + 1)) = value 0 (l.take k) * 10 + (l[k].toNat - 48) := by
  rw [List.take_succ_eq_append_getElem hk, value_append, value_one]
theorem pre_lt {l : List UInt8} (h : ∀ b ∈ l, 48 ≤ b.toNat ∧ b.toNat ≤ 57) : ∀ k, k ≤ l.length → value 0 (l.take k) < 10 ^ k
  | 0, _ => by simp [value_nil]
  | k + 1, hk => by
    have h1 := pre_lt h k (by omega)
    have h2 := h l[k] (List.getElem_mem _)
    rw [pre_step (by omega), Nat.pow_succ]
    omega
theorem value_ge : ∀ (l : List UInt8) (v : Nat), v ≤ value v l
  | [], v => by rw [value_nil]; exact Nat.le_refl _
  | b :: l, v => by
    rw [value_cons]
    have := value_ge l (more v b)
    rw [more_eq] at this ⊢
    omega
theorem pre_pos {n k : Nat} (h1 : 1 ≤ k) (h2 : k < (digits n).length) : value 0 ((digits n).take k) ≠ 0 := by
  have hl := digits_lead n (digits_long (n := n) (by omega))
  have hb := digits_bytes n
  cases hd : digits n with
  | nil => exact absurd hd (digits_ne _)
  | cons a l =>
    rw [hd] at hl hb
    have ha := hb a (List.mem_cons_self ..)
    have hne : a ≠ 48 := fun e => hl (by rw [e]; rfl)
    have hn : a.toNat ≠ 48 := fun e => hne (UInt8.toNat_inj.1 e)
    obtain ⟨j, rfl⟩ : ∃ j, k = j + 1 := ⟨k - 1, by omega⟩
    rw [List.take_succ_cons, value_cons]
    have := value_ge (l.take j) (more 0 a)
    rw [more_eq] at this ⊢
    omega
theorem pre_all (n : Nat) : value 0 ((digits n).take (digits n).length) = n := by rw [List.take_length, value_digits]
/-- The bytes of a tied number, one by one. -/
theorem num_at {n k : Nat} {x : List UInt8} (hk : k < (digits n).length) : (number n ++ x)[k]? = some ((digits n)[k]) := by
  rw [number, List.append_assoc, List.getElem?_append_left hk, List.getElem?_eq_getElem hk]
theorem num_end (n : Nat) (x : List UInt8) : (number n ++ x)[(digits n).length]? = some 59 := by
  rw [number, List.append_assoc, List.getElem?_append_right (Nat.le_refl _), Nat.sub_self]
  rfl
theorem num_size (n : Nat) : (number n).length = (digits n).length + 1 := by rw [number, List.length_append, List.length_singleton]
end Go.Proofs.YtopncohhagebbaaDoor.Knot

namespace Go.Proofs.YtopncohhagebbaaDoor
open Go.RowKit Go.Sort
namespace Knot

theorem byte_of {s : ByteArray} {k : Nat} {b : UInt8} (h : s.data.toList[k]? = some b) : ∃ hk : k < s.size, s[k]'hk = b := by
  have h1 := (List.getElem?_eq_some_iff.1 h).1
  have hk : k < s.size := by rw [Lib.size_eq]; exact h1
  refine ⟨hk, ?_⟩
  rw [← (List.getElem?_eq_some_iff.1 h).2]
  simp
  rfl

set_option maxHeartbeats 4000000 in
set_option maxRecDepth 100000 in
/-- The number at the front, where one was tied there. -/
theorem number_good_f (n : Nat) (x : List UInt8) (s : ByteArray) (w : World) (hs : s.data.toList = number n ++ x) (hn : n < 10 ^ 16) :
    Calls Tryd.prog 38 #[.string s] w fun e w' => e = .returned (.tuple #[.int .i64 n, .int .i64 ((digits n).length + 1 : Nat)]) ∧ Below w.heap.size w w' := by
  have hlen := digits_len 15 n hn
  have HB := Lib.hid (digits_bytes n)
  have HS := Lib.hid hs
  have hp1 := digits_pos n
  obtain ⟨L, hL⟩ : ∃ L, L = (digits n).length := ⟨_, rfl⟩
  rw [← hL] at hlen hp1 ⊢
  have HL := Lib.hid hL
  clear hs hL
  go_enter Tryd.func38, Tryd.ntmps38
  go_wp2
  go_loopw [2] (fun v wr => ∃ (pos : Nat), v = .int .i64 (value 0 ((digits n).take pos) : Nat) ∧ wr.heap[w.heap.size]? = some (.stringIter s pos) ∧ Below w.heap.size w wr ∧ pos ≤ L) (fun _ wr => s.size - wr.iterPos w.heap.size)
  case atStart => exact ⟨0, by simp [value_nil], World.iter_heap w s 0, (Below.refl _ _).alloc (Nat.le_refl _) _, by omega⟩
  case round =>
    obtain ⟨pos, rfl, hit, hbw, hpl⟩ := hrel
    have hpos0 := iterPos_of hit
    by_cases hp : pos < L
    · have hp' : pos < (digits n).length := by rw [← HL.out]; exact hp
      obtain ⟨d, hd⟩ : ∃ d, d = (digits n)[pos]'hp' := ⟨_, rfl⟩
      have hat : s.data.toList[pos]? = some d := by rw [HS.out, num_at hp', hd]
      obtain ⟨hps, hb⟩ := byte_of hat
      obtain ⟨d0, d1⟩ := HB.out d (by rw [hd]; exact List.getElem_mem _)
      have hnx : ∀ ty, (Instr.next (.pointer (some ⟨w.heap.size, 0, none⟩)) true ty).run Tryd.prog wr = _ := fun ty => Lib.run_next_ascii_at wr w.heap.size s pos ty hit hps (by rw [hb]; omega)
      rw [hb] at hnx
      have hit2 := Lib.iterAt_heap wr w.heap.size s pos (pos + 1) hit
      have hbw2 := Lib.below_iterAt hbw (k := w.heap.size) (Nat.le_refl _) s (pos + 1)
      obtain ⟨W1, hW1⟩ : ∃ W1, W1 = wr.iterAt w.heap.size s (pos + 1) := ⟨_, rfl⟩
      rw [← hW1] at hnx hit2 hbw2
      have hst := pre_step hp'
      rw [← hd] at hst
      have hlt := pre_lt HB.out pos (by omega)
      have hlt2 : 10 ^ pos ≤ 10 ^ 15 := Nat.pow_le_pow_right (by decide) (by omega)
      have hz : ¬ (pos = 0) → ¬ value 0 ((digits n).take pos) = 0 := fun h => pre_pos (by omega) hp'
      obtain ⟨t, ht⟩ : ∃ t, t = d.toNat := ⟨_, rfl⟩
      rw [← ht] at hnx d0 d1 hst
      obtain ⟨q, hq⟩ : ∃ q, q = value 0 ((digits n).take pos) := ⟨_, rfl⟩
      rw [← hq] at hst hlt hz ⊢
      have HT := Lib.hid hst
      have hq2 : q < 10 ^ 15 := by omega
      have HQ := Lib.hid hq
      clear hW1 hit hbw hat hb hd hst hlt hlt2 hq ht
      by_cases h0 : pos = 0
      · subst h0
        have hq0 : q = 0 := by rw [HQ.out]; simp [value_nil]
        subst hq0
        have e59 : ((t : Int) == 59) = false := by simp; omega
        go_wp2
        go_roundw
        case rel => exact ⟨1, by rw [HT.out]; congr 1; omega, hit2, hbw2, by omega⟩
        case measure => rw [iterPos_of hit2, hpos0]; omega
      · have hq0 : ((q : Int) == 0) = false := by have := hz h0; simp; omega
        have e17 : ((pos : Int) == 17) = false := by simp; omega
        have e59 : ((t : Int) == 59) = false := by simp; omega
        clear hz
        go_wp2
        go_roundw
        case rel => exact ⟨pos + 1, by rw [HT.out]; congr 1; omega, hit2, hbw2, by omega⟩
        case measure => rw [iterPos_of hit2, hpos0]; omega
    · have hpe : pos = L := by omega
      subst hpe
      have hat : s.data.toList[pos]? = some 59 := by rw [HS.out, HL.out, num_end]
      obtain ⟨hps, hb⟩ := byte_of hat
      have hnx : ∀ ty, (Instr.next (.pointer (some ⟨w.heap.size, 0, none⟩)) true ty).run Tryd.prog wr = _ := fun ty => Lib.run_next_ascii_at wr w.heap.size s pos ty hit hps (by rw [hb]; decide)
      rw [hb, show ((59 : UInt8).toNat : Int) = 59 from rfl] at hnx
      have hbw2 := Lib.below_iterAt hbw (k := w.heap.size) (Nat.le_refl _) s (pos + 1)
      have hv : value 0 ((digits n).take pos) = n := by rw [HL.out, pre_all]
      rw [hv] at *
      clear hv hat hb hit hbw hp
      go_wp2
      go_ret2
      exact ⟨by congr 1, hbw2⟩

set_option maxHeartbeats 1000000 in
set_option maxRecDepth 100000 in
theorem number_empty (w : World) :
    Calls Tryd.prog 38 #[.string ⟨#[]⟩] w fun e w' => e = .returned (.tuple #[.int .i64 0, .int .i64 0]) ∧ Below w.heap.size w w' := by
  go_enter Tryd.func38, Tryd.ntmps38
  go_wp2
  go_loopw [] (fun wr => wr.heap[w.heap.size]? = some (.stringIter ⟨#[]⟩ 0) ∧ Below w.heap.size w wr) (fun wr => 0)
  case atStart => exact ⟨World.iter_heap w _ 0, (Below.refl _ _).alloc (Nat.le_refl _) _⟩
  case round =>
    obtain ⟨hit, hbw⟩ := hrel
    have hnx : ∀ ty, (Instr.next (.pointer (some ⟨w.heap.size, 0, none⟩)) true ty).run Tryd.prog wr = _ := fun ty => Lib.run_next_end_at wr w.heap.size _ 0 ty hit (by decide)
    go_wp2
    go_ret2
    exact ⟨rfl, hbw⟩

set_option maxHeartbeats 1000000 in
set_option maxRecDepth 100000 in
/-- No digit at the front. -/
theorem number_bad_f (s : ByteArray) (x : List UInt8) (w : World) (hs : s.data.toList = 120 :: x) :
    Calls Tryd.prog 38 #[.string s] w fun e w' => e = .returned (.tuple #[.int .i64 0, .int .i64 0]) ∧ Below w.heap.size w w' := by
  obtain ⟨hps, hb⟩ := byte_of (s := s) (k := 0) (b := 120) (by rw [hs]; rfl)
  clear hs
  go_enter Tryd.func38, Tryd.ntmps38
  go_wp2
  go_loopw [2] (fun v wr => v = .int .i64 0 ∧ wr.heap[w.heap.size]? = some (.stringIter s 0) ∧ Below w.heap.size w wr) (fun _ _ => 0)
  case atStart => exact ⟨rfl, World.iter_heap w _ 0, (Below.refl _ _).alloc (Nat.le_refl _) _⟩
  case round =>
    obtain ⟨rfl, hit, hbw⟩ := hrel
    have hnx : ∀ ty, (Instr.next (.pointer (some ⟨w.heap.size, 0, none⟩)) true ty).run Tryd.prog wr = _ := fun ty => Lib.run_next_ascii_at wr w.heap.size s 0 ty hit hps (by rw [hb]; decide)
    rw [hb, show ((120 : UInt8).toNat : Int) = 120 from rfl] at hnx
    have hbw2 := Lib.below_iterAt hbw (k := w.heap.size) (Nat.le_refl _) s (0 + 1)
    clear hb
    go_wp2
    go_ret2
    exact ⟨rfl, hbw2⟩

set_option maxHeartbeats 2000000 in
set_option maxRecDepth 100000 in
/-- A nought ahead. -/
theorem number_nought (w : World) :
    Calls Tryd.prog 38 #[.string ⟨#[48, 49, 50, 59]⟩] w fun e w' => e = .returned (.tuple #[.int .i64 0, .int .i64 0]) ∧ Below w.heap.size w w' := by
  obtain ⟨s, hs⟩ : ∃ s : ByteArray, s = ⟨#[48, 49, 50, 59]⟩ := ⟨_, rfl⟩
  obtain ⟨p0, b0⟩ := byte_of (s := s) (k := 0) (b := 48) (by rw [hs]; rfl)
  obtain ⟨p1, b1⟩ := byte_of (s := s) (k := 1) (b := 49) (by rw [hs]; rfl)
  have hz : s.size = 4 := by rw [hs]; rfl
  rw [← hs]
  clear hs
  go_enter Tryd.func38, Tryd.ntmps38
  go_wp2
  go_loopw [2] (fun v wr => ∃ pos, v = .int .i64 0 ∧ wr.heap[w.heap.size]? = some (.stringIter s pos) ∧ Below w.heap.size w wr ∧ (pos = 0 ∨ pos = 1)) (fun _ wr => s.size - wr.iterPos w.heap.size)
  case atStart => exact ⟨0, rfl, World.iter_heap w _ 0, (Below.refl _ _).alloc (Nat.le_refl _) _, .inl rfl⟩
  case round =>
    obtain ⟨pos, rfl, hit, hbw, hpp⟩ := hrel
    have hpos0 := iterPos_of hit
    rcases hpp with rfl | rfl
    · have hnx : ∀ ty, (Instr.next (.pointer (some ⟨w.heap.size, 0, none⟩)) true ty).run Tryd.prog wr = _ := fun ty => Lib.run_next_ascii_at wr w.heap.size s 0 ty hit p0 (by rw [b0]; decide)
      rw [b0, show ((48 : UInt8).toNat : Int) = 48 from rfl] at hnx
      have hit2 := Lib.iterAt_heap wr w.heap.size s 0 (0 + 1) hit
      have hbw2 := Lib.below_iterAt hbw (k := w.heap.size) (Nat.le_refl _) s (0 + 1)
      obtain ⟨W1, hW1⟩ : ∃ W1, W1 = wr.iterAt w.heap.size s (0 + 1) := ⟨_, rfl⟩
      rw [← hW1] at hnx hit2 hbw2
      clear hW1 hit hbw b0 b1
      go_wp2
      go_roundw
      case rel => exact ⟨1, rfl, hit2, hbw2, .inr rfl⟩
      case measure => rw [iterPos_of hit2, hpos0]; omega
    · have hnx : ∀ ty, (Instr.next (.pointer (some ⟨w.heap.size, 0, none⟩)) true ty).run Tryd.prog wr = _ := fun ty => Lib.run_next_ascii_at wr w.heap.size s 1 ty hit p1 (by rw [b1]; decide)
      rw [b1, show ((49 : UInt8).toNat : Int) = 49 from rfl] at hnx
      have hbw2 := Lib.below_iterAt hbw (k := w.heap.size) (Nat.le_refl _) s (1 + 1)
      clear hit hbw b0 b1
      go_wp2
      go_ret2
      exact ⟨rfl, hbw2⟩

/-! ### the rune at the front -/
set_option maxHeartbeats 1000000 in
set_option maxRecDepth 100000 in
theorem front_empty (w : World) :
    Calls Tryd.prog 65 #[.string ⟨#[]⟩] w fun e w' => e = .returned (.int .i32 (-1)) ∧ Below w.heap.size w w' := by
  go_enter Tryd.func65, Tryd.ntmps65
  go_wp2
  go_loopw [] (fun wr => wr.heap[w.heap.size]? = some (.stringIter ⟨#[]⟩ 0) ∧ Below w.heap.size w wr) (fun wr => 0)
  case atStart => exact ⟨World.iter_heap w _ 0, (Below.refl _ _).alloc (Nat.le_refl _) _⟩
  case round =>
    obtain ⟨hit, hbw⟩ := hrel
    have hnx : ∀ ty, (Instr.next (.pointer (some ⟨w.heap.size, 0, none⟩)) true ty).run Tryd.prog wr = _ := fun ty => Lib.run_next_end_at wr w.heap.size _ 0 ty hit (by decide)
    go_wp2
    go_ret
    exact ⟨rfl, hbw⟩
set_option maxHeartbeats 1000000 in
set_option maxRecDepth 100000 in
theorem front_byte (s : ByteArray) (c : UInt8) (x : List UInt8) (w : World) (hs : s.data.toList = c :: x) (hc : c.toNat < 128) :
    Calls Tryd.prog 65 #[.string s] w fun e w' => e = .returned (.int .i32 (c.toNat : Int)) ∧ Below w.heap.size w w' := by
  obtain ⟨hps, hb⟩ := byte_of (s := s) (k := 0) (b := c) (by rw [hs]; rfl)
  clear hs
  go_enter Tryd.func65, Tryd.ntmps65
  go_wp2
  go_loopw [] (fun wr => wr.heap[w.heap.size]? = some (.stringIter s 0) ∧ Below w.heap.size w wr) (fun wr => 0)
  case atStart => exact ⟨World.iter_heap w _ 0, (Below.refl _ _).alloc (Nat.le_refl _) _⟩
  case round =>
    obtain ⟨hit, hbw⟩ := hrel
    have hnx : ∀ ty, (Instr.next (.pointer (some ⟨w.heap.size, 0, none⟩)) true ty).run Tryd.prog wr = _ := fun ty => Lib.run_next_ascii_at wr w.heap.size s 0 ty hit hps (by rw [hb]; exact hc)
    rw [hb] at hnx
    have hbw2 := Lib.below_iterAt hbw (k := w.heap.size) (Nat.le_refl _) s (0 + 1)
    clear hb
    go_wp2
    go_ret
    exact ⟨rfl, hbw2⟩
end Knot
end Go.Proofs.YtopncohhagebbaaDoor

namespace Go.Proofs.YtopncohhagebbaaDoor
open Go.RowKit Go.Sort
namespace Knot
open Who (bs bs_list bs_size bs_self eq_of_list)

/-- An untying in block I: what is left, and whether it has failed. -/
def Inn (w : World) (I : Nat) (rest : ByteArray) (f : Bool) : Prop := w.heap[I]? = some (.cells #[.string rest, .bool f] 66 (0, 0))
abbrev At (I : Nat) : Nat → Prop := fun k => k = I
section
variable {w x : World} {I : Nat} {s t : ByteArray} {f : Bool}
theorem Inn.lt (h : Inn w I s f) : I < w.heap.size := (Array.getElem?_eq_some_iff.1 h).1
theorem Inn.cells (h : Inn w I s f) : (w.cell? ⟨I, 0, none⟩ = some (.string s) ∧ w.frozen? ⟨I, 0, none⟩ = false) ∧ (w.cell? ⟨I, 1, none⟩ = some (.bool f) ∧ w.frozen? ⟨I, 1, none⟩ = false) :=
  ⟨⟨by rw [Lib.cell_of_heap h]; rfl, Lib.frozen_of_heap h 0⟩, ⟨by rw [Lib.cell_of_heap h]; rfl, Lib.frozen_of_heap h 1⟩⟩
theorem Inn.keep {F : Nat → Prop} (h : Inn w I s f) (ht : Turns F w x) (hF : ¬ F I) : Inn x I s f := (ht.block I h.lt hF).trans h
theorem Inn.below (h : Inn w I s f) (hb : Below w.heap.size w x) : Inn x I s f := (hb.block I h.lt).trans h
theorem Inn.set_other (h : Inn w I s f) {p : Addr} (hp : I ≠ p.block) (v : Value) : Inn (w.setCell p v) I s f := (Below.heap_setCell _ _ _ _ hp).trans h
theorem Inn.put0 (h : Inn w I s f) (t : ByteArray) : Inn (w.setCell ⟨I, 0, none⟩ (.string t)) I t f := heap_setCell_same w I 0 _ _ _ h
theorem Inn.put1 (h : Inn w I s f) (b : Bool) : Inn (w.setCell ⟨I, 1, none⟩ (.bool b)) I s b := heap_setCell_same w I 1 _ _ _ h
end

theorem open_any (bv : Value) (s : ByteArray) (w : World) (hc : ∀ W, W = w → (Go.convert 22 9 bv).run Tryd.prog W = .ok (.string s) W) :
    Calls Tryd.prog 9 #[bv] w fun e x => e = .returned (.pointer (some ⟨w.heap.size, 0, none⟩)) ∧ Inn x w.heap.size s false ∧ Below w.heap.size w x := by
  have hc' := hc w rfl
  clear hc
  go_enter Tryd.func9, Tryd.ntmps9
  go_wp2
  go_ret
  exact ⟨rfl, by rw [Inn, heap_alloc_new], (Below.refl _ _).alloc (Nat.le_refl _) _⟩

abbrev iptr (I : Nat) : Value := .pointer (some ⟨I, 0, none⟩)

theorem fail_any (I : Nat) (s : ByteArray) (f : Bool) (w : World) (h : Inn w I s f) :
    Calls Tryd.prog 39 #[iptr I] w fun e x => e = .returned (.tuple #[]) ∧ Inn x I ⟨#[]⟩ true ∧ Turns (At I) w x := by
  obtain ⟨⟨c0, f0⟩, ⟨c1, f1⟩⟩ := h.cells
  have H := Lib.hid h
  clear h
  go_enter Tryd.func39, Tryd.ntmps39
  go_wp2
  go_end0
  exact ⟨rfl, (H.out.put0 _).put1 _, ((Turns.refl _ _).setCell (by rfl) _).setCell (by rfl) _⟩

/-- Number, where none stands there. -/
theorem number_fail (I : Nat) (s : ByteArray) (f : Bool) (most : Int) (w : World) (h : Inn w I s f)
    (hn : ∀ W, Calls Tryd.prog 38 #[.string s] W fun e x => e = .returned (.tuple #[.int .i64 0, .int .i64 0]) ∧ Below W.heap.size W x) :
    Calls Tryd.prog 23 #[iptr I, .int .i64 most] w fun e x => e = .returned (.int .i64 0) ∧ Inn x I ⟨#[]⟩ true ∧ Turns (At I) w x := by
  obtain ⟨⟨c0, f0⟩, -⟩ := h.cells
  have H := Lib.hid h
  have HN := Lib.hid hn
  have HF := Lib.hid (fun W => fail_any I s f W)
  clear h hn
  go_enter Tryd.func23, Tryd.ntmps23
  go_wp2_with fail
  refine (HN.out _).mono ?_
  rintro e w1 ⟨rfl, b1⟩
  have h1 := H.out.below b1
  clear c0 f0
  go_wp2_with fail
  refine (HF.out _ h1).mono ?_
  rintro e w2 ⟨rfl, h2, t2⟩
  go_wp2
  go_ret
  exact ⟨rfl, h2, t2.after_below b1⟩
theorem number_none (I : Nat) (f : Bool) (most : Int) (w : World) (h : Inn w I ⟨#[]⟩ f) :
    Calls Tryd.prog 23 #[iptr I, .int .i64 most] w fun e x => e = .returned (.int .i64 0) ∧ Inn x I ⟨#[]⟩ true ∧ Turns (At I) w x := number_fail I _ f most w h fun W => number_empty W

/-- Number, where one was tied. -/
theorem number_goes (I n : Nat) (s : ByteArray) (y : List UInt8) (f : Bool) (most : Int) (w : World) (h : Inn w I s f) (hs : s.data.toList = number n ++ y) (hn : n < 10 ^ 16) (hm : (n : Int) ≤ most) :
    Calls Tryd.prog 23 #[iptr I, .int .i64 most] w fun e x => e = .returned (.int .i64 n) ∧ Inn x I (bs y) f ∧ Turns (At I) w x := by
  obtain ⟨⟨c0, f0⟩, -⟩ := h.cells
  have hn1 := fun W => number_good_f n y s W hs hn
  have hsz : (digits n).length + 1 ≤ s.size := by rw [Lib.size_eq, hs, List.length_append, num_size]; omega
  obtain ⟨L, hL⟩ : ∃ L, L = (digits n).length + 1 := ⟨_, rfl⟩
  have hsl : ∀ W, (Instr.slice 9 (.string s) (some (.int .i64 (L : Int))) none none).run Tryd.prog W = .ok (.string (bs y)) W := fun W => by
    rw [run_slice_string_from_if _ 9 s .i64 (L : Int) Tryd.underlying9, if_pos (by omega), Int.toNat_natCast]
    have e : s.extract L s.size = bs y := by
      apply eq_of_list
      rw [bs_list, Gl.extract_list, hs, hL, ← num_size]
      exact List.drop_left
    rw [e]
  have hL1 : 1 ≤ L := by omega
  have hz : ((L : Int) == 0) = false := by simp; omega
  rw [← hL] at hn1 hsz
  have H := Lib.hid h
  have HN := Lib.hid hn1
  clear h hn1 hs hn hsz hL hL1
  go_enter Tryd.func23, Tryd.ntmps23
  go_wp2_with fail
  refine (HN.out _).mono ?_
  rintro e w1 ⟨rfl, b1⟩
  have h1 := H.out.below b1
  have K1 := Lib.hid h1
  obtain ⟨⟨c2, f2⟩, -⟩ := h1.cells
  clear c0 f0 h1
  go_wp2
  go_ret
  exact ⟨rfl, K1.out.put0 _, (Turns.of_below b1).setCell (by rfl) _⟩
end Knot
end Go.Proofs.YtopncohhagebbaaDoor

namespace Go.Proofs.YtopncohhagebbaaDoor
open Go.RowKit Go.Sort
namespace Knot
open Who (bs bs_list bs_size bs_self eq_of_list)

theorem text_none (I : Nat) (f : Bool) (most : Int) (w : World) (h : Inn w I ⟨#[]⟩ f) :
    Calls Tryd.prog 40 #[iptr I, .int .i64 most] w fun e x => e = .returned (.string ⟨#[]⟩) ∧ Inn x I ⟨#[]⟩ true ∧ Turns (At I) w x := by
  have HN := Lib.hid (number_none I f most w h)
  have HF := Lib.hid (fun W => fail_any I ⟨#[]⟩ true W)
  clear h
  go_enter Tryd.func40, Tryd.ntmps40
  go_wp2_with fail
  refine HN.out.mono ?_
  rintro e w1 ⟨rfl, h1, t1⟩
  obtain ⟨⟨c0, f0⟩, -⟩ := h1.cells
  have H1 := Lib.hid h1
  clear h1
  go_wp2_with fail
  refine (HF.out _ H1.out).mono ?_
  rintro e w2 ⟨rfl, h2, t2⟩
  go_wp2
  go_ret
  exact ⟨rfl, h2, t1.trans t2 fun _ _ h => h⟩

theorem text_goes (I : Nat) (s t : ByteArray) (y : List UInt8) (f : Bool) (most : Int) (w : World) (h : Inn w I s f) (hs : s.data.toList = textB t.data.toList ++ y) (ht : t.size ≤ 4000000) (hm : (t.size : Int) ≤ most) :
    Calls Tryd.prog 40 #[iptr I, .int .i64 most] w fun e x => e = .returned (.string t) ∧ Inn x I (bs y) f ∧ Turns (At I) w x := by
  obtain ⟨z, hz⟩ : ∃ z, z = t.data.toList ++ (44 :: y) := ⟨_, rfl⟩
  have hs2 : s.data.toList = number t.size ++ z := by rw [hs, textB, ← Lib.size_eq, hz]; simp
  have hzl : z.length = t.size + 1 + y.length := by rw [hz, List.length_append, ← Lib.size_eq, List.length_cons]; omega
  have HN := Lib.hid (number_goes I t.size s z f most w h hs2 (by omega) hm)
  have HC := Lib.hid (fun W => Who.clone_any t W ht)
  have hsz : (bs z).size = t.size + 1 + y.length := by rw [bs_size, hzl]
  have hb : (bs z).data.toList[t.size]? = some 44 := by
    rw [bs_list, hz, List.getElem?_append_right (by rw [← Lib.size_eq]; exact Nat.le_refl _), ← Lib.size_eq, Nat.sub_self]
    rfl
  have e1 : (bs z).extract 0 t.size = t := by
    apply eq_of_list
    rw [Who.bs_cut, bs_list, bs_list, List.drop_zero, Nat.sub_zero, hz, Lib.size_eq]
    exact List.take_left
  have e2 : (bs z).extract (t.size + 1) (bs z).size = bs y := by
    apply eq_of_list
    rw [Gl.extract_list, bs_list, bs_list, hz, Lib.size_eq, show t.data.toList ++ 44 :: y = (t.data.toList ++ [44]) ++ y by simp]
    rw [show t.data.toList.length + 1 = (t.data.toList ++ [44]).length by simp]
    exact List.drop_left
  obtain ⟨u, hu⟩ : ∃ u, u = bs z := ⟨_, rfl⟩
  rw [← hu] at hsz hb e1 e2 HN
  have hix : ∀ W, (Instr.index 9 (.string u) (.int .i64 (t.size : Int))).run Tryd.prog W = .ok (.int .u8 44) W := fun W => by
    obtain ⟨hk, hbb⟩ := byte_of hb
    rw [run_index_string W 9 u .i64 _ Tryd.underlying9, dif_pos ⟨by omega, by omega⟩]
    have e : ((t.size : Int)).toNat = t.size := by omega
    simp only [e]
    rw [hbb]
    rfl
  have hs1 : ∀ W, (Instr.slice 9 (.string u) none (some (.int .i64 (t.size : Int))) none).run Tryd.prog W = .ok (.string t) W := fun W => by
    rw [run_slice_string_to_if _ 9 u .i64 (t.size : Int) Tryd.underlying9, if_pos (by omega), Int.toNat_natCast, e1]
  have hs3 : ∀ W, (Instr.slice 9 (.string u) (some (.int .i64 ((t.size : Int) + 1))) none none).run Tryd.prog W = .ok (.string (bs y)) W := fun W => by
    rw [run_slice_string_from_if _ 9 u .i64 ((t.size : Int) + 1) Tryd.underlying9, if_pos (by omega), show ((t.size : Int) + 1).toNat = t.size + 1 by omega, e2]
  have hlt : t.size < u.size := by omega
  have hcmp : ¬ ((u.size : Int) ≤ (t.size : Int)) := by omega
  clear h hs hs2 hzl hb e1 e2 hu hz hm hsz
  go_enter Tryd.func40, Tryd.ntmps40
  go_wp2_with fail
  refine HN.out.mono ?_
  rintro e w1 ⟨rfl, h1, t1⟩
  obtain ⟨⟨c0, f0⟩, -⟩ := h1.cells
  have H1 := Lib.hid h1
  clear h1 HN
  go_wp2_with fail
  refine (HC.out _).mono ?_
  rintro e w2 ⟨rfl, b2⟩
  have h2 := H1.out.below b2
  clear c0 f0
  obtain ⟨⟨c0, f0⟩, -⟩ := h2.cells
  have H2 := Lib.hid h2
  clear h2
  go_wp2
  go_ret
  exact ⟨rfl, H2.out.put0 _, (t1.then_below b2).setCell (by rfl) _⟩

theorem mark_none (I : Nat) (f : Bool) (w : World) (h : Inn w I ⟨#[]⟩ f) :
    Calls Tryd.prog 55 #[iptr I] w fun e x => e = .returned (.bool false) ∧ Inn x I ⟨#[]⟩ true ∧ Turns (At I) w x := by
  obtain ⟨⟨c0, f0⟩, -⟩ := h.cells
  have H := Lib.hid h
  have HN := Lib.hid (fun W => front_empty W)
  have HF := Lib.hid (fun W => fail_any I ⟨#[]⟩ f W)
  clear h
  go_enter Tryd.func55, Tryd.ntmps55
  go_wp2_with fail
  refine (HN.out _).mono ?_
  rintro e w1 ⟨rfl, b1⟩
  have h1 := H.out.below b1
  clear c0 f0
  go_wp2_with fail
  refine (HF.out _ h1).mono ?_
  rintro e w2 ⟨rfl, h2, t2⟩
  go_wp2
  go_ret
  exact ⟨rfl, h2, t2.after_below b1⟩
theorem mark_goes (I : Nat) (s : ByteArray) (m : Bool) (y : List UInt8) (f : Bool) (w : World) (h : Inn w I s f) (hs : s.data.toList = markB m ++ y) :
    Calls Tryd.prog 55 #[iptr I] w fun e x => e = .returned (.bool m) ∧ Inn x I (bs y) f ∧ Turns (At I) w x := by
  obtain ⟨⟨c0, f0⟩, -⟩ := h.cells
  have hsz : 1 ≤ s.size := by rw [Lib.size_eq, hs]; cases m <;> simp [markB]
  have hsl : ∀ W, (Instr.slice 9 (.string s) (some (.int .i64 1)) none none).run Tryd.prog W = .ok (.string (bs y)) W := fun W => by
    rw [run_slice_string_from_if _ 9 s .i64 1 Tryd.underlying9, if_pos (by omega)]
    have e : s.extract (1 : Int).toNat s.size = bs y := by
      apply eq_of_list
      rw [bs_list, show (1 : Int).toNat = 1 from rfl, Gl.extract_list, hs]
      cases m <;> rfl
    rw [e]
  have H := Lib.hid h
  cases m with
  | true =>
    have HN := Lib.hid (fun W => front_byte s 43 y W hs (by decide))
    clear h hs
    go_enter Tryd.func55, Tryd.ntmps55
    go_wp2_with fail
    refine (HN.out _).mono ?_
    rintro e w1 ⟨rfl, b1⟩
    rw [show ((43 : UInt8).toNat : Int) = 43 from rfl]
    have h1 := H.out.below b1
    clear c0 f0
    obtain ⟨⟨c0, f0⟩, -⟩ := h1.cells
    have H1 := Lib.hid h1
    clear h1
    go_wp2
    go_ret
    exact ⟨rfl, H1.out.put0 _, (Turns.of_below b1).setCell (by rfl) _⟩
  | false =>
    have HN := Lib.hid (fun W => front_byte s 45 y W hs (by decide))
    clear h hs
    go_enter Tryd.func55, Tryd.ntmps55
    go_wp2_with fail
    refine (HN.out _).mono ?_
    rintro e w1 ⟨rfl, b1⟩
    rw [show ((45 : UInt8).toNat : Int) = 45 from rfl]
    have h1 := H.out.below b1
    clear c0 f0
    obtain ⟨⟨c0, f0⟩, -⟩ := h1.cells
    have H1 := Lib.hid h1
    clear h1
    go_wp2
    go_ret
    exact ⟨rfl, H1.out.put0 _, (Turns.of_below b1).setCell (by rfl) _⟩

theorem left_any (I : Nat) (s : ByteArray) (f : Bool) (w : World) (h : Inn w I s f) :
    Calls Tryd.prog 24 #[iptr I] w fun e x => e = .returned (.int .i64 (s.size : Nat)) ∧ x = w := by
  obtain ⟨⟨c0, f0⟩, -⟩ := h.cells
  clear h
  go_enter Tryd.func24, Tryd.ntmps24
  go_wp2
  go_ret
  exact ⟨rfl, rfl⟩
theorem end_any (I : Nat) (f : Bool) (w : World) (h : Inn w I ⟨#[]⟩ f) :
    Calls Tryd.prog 12 #[iptr I] w fun e x => e = .returned (.int .i64 (if f then 2 else 0)) ∧ x = w := by
  obtain ⟨⟨c0, f0⟩, ⟨c1, f1⟩⟩ := h.cells
  clear h
  cases f
  all_goals
    go_enter Tryd.func12, Tryd.ntmps12
    go_wp2
    go_ret
    exact ⟨rfl, rfl⟩
end Knot
end Go.Proofs.YtopncohhagebbaaDoor
