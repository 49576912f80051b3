/-
  Layer 6 (sigil): package sigil's second, span, sign, word, front and behind.
-/
import Derived.Test.YtbphmaoomnocmaaDoorSgA
namespace Go.Proofs.YtbphmaoomnocmaaDoor
open Go.RowKit
namespace Sg
open Gl (drop_ne width drop_next drop_end)

/-- A function's value. -/
abbrev fnv (f : FuncId) : Value := .func (.func f) #[] #[]
/-- A function that is asked of runes. -/
structure Asks (f : FuncId) (g : Nat → Bool) : Prop where
  enter : ∀ args x, (callFunc f args).run Tryd.prog x = .ok (.enter f args) x
  ask : ∀ (r : Nat) (_ : r ≤ 1114111) (w : World), Calls Tryd.prog f #[.int .i32 r] w fun e w' => e = .returned (.bool (g r)) ∧ w = w'
theorem asks_blank : Asks 85 blank := ⟨fun args x => by kernel_rfl, blank_any⟩
theorem asks_inLine : Asks 87 inLine := ⟨fun args x => by kernel_rfl, inLine_any⟩
theorem asks_inWord : Asks 98 inWord := ⟨fun args x => by kernel_rfl, inWord_any⟩

set_option maxHeartbeats 2000000 in
set_option maxRecDepth 100000 in
theorem span_any {f : FuncId} {g : Nat → Bool} (H : Asks f g) (s : ByteArray) (q : List Nat) (hq : Gly.runes s.data.toList = some q) (w : World) (hs : s.size ≤ 4000000) :
    Calls Tryd.prog 86 #[.string s, fnv f] w fun e w' => e = .returned (.int .i64 (Gly.pre (run g q) s.data.toList : Nat)) ∧ Below w.heap.size w w' := by
  have HE := H.enter
  have HA := Lib.hid H.ask
  have HQ := Lib.hid hq
  clear H hq
  go_enter Tryd.func86, Tryd.ntmps86
  go_wp2_with fail
  go_loopw [] (fun wr => ∃ (pos : Nat), wr.heap[w.heap.size]? = some (.stringIter s pos) ∧ Below w.heap.size w wr ∧ Hid (∃ u, Gly.runes (s.data.toList.drop pos) = some u ∧ pos + Gly.pre (run g u) (s.data.toList.drop pos) = Gly.pre (run g q) s.data.toList) ∧ pos ≤ s.size) (fun wr => s.size - wr.iterPos w.heap.size)
  case atStart => exact ⟨0, World.iter_heap w s 0, (Below.refl _ _).alloc (Nat.le_refl _) _, Lib.hid ⟨q, HQ.out, by simp⟩, by omega⟩
  case round =>
    obtain ⟨pos, hit, hbw, HU, hps⟩ := hrel
    have hpos0 := iterPos_of hit
    obtain ⟨u, hu, hpu⟩ := HU.out
    by_cases hp : pos < s.size
    · have hnx : ∀ ty, (Instr.next (.pointer (some ⟨w.heap.size, 0, none⟩)) true ty).run Tryd.prog wr = _ := fun ty => Lib.run_next_any_at wr w.heap.size s pos ty hit hp
      have hwd := width s pos hp
      have hit2 := Lib.iterAt_heap wr w.heap.size s pos (pos + (Utf8.decode s pos).2) hit
      have hbw2 := Lib.below_iterAt hbw (k := w.heap.size) (Nat.le_refl _) s (pos + (Utf8.decode s pos).2)
      obtain ⟨W1, hW1⟩ : ∃ W1, W1 = wr.iterAt w.heap.size s (pos + (Utf8.decode s pos).2) := ⟨_, rfl⟩
      rw [← hW1] at hnx hit2 hbw2
      clear hW1 hit hbw
      obtain ⟨t, rfl, ht, hmx, hpre⟩ := at_rune hu hp
      have hC := fun W => HA.out (Utf8.decode s pos).1 hmx W
      cases hg : g (Utf8.decode s pos).1 with
      | true =>
        rw [hg] at hC
        rw [run_cons _ hg, hpre] at hpu
        have HC := Lib.hid hC
        have HT := Lib.hid (And.intro ht hpu)
        clear hC hg ht hpu hpre hu HU
        go_wp2_with fail
        refine (HC.out _).mono ?_
        rintro e w' ⟨rfl, rfl⟩
        go_wp2_with fail
        go_roundw
        case rel => exact ⟨_, hit2, hbw2, Lib.hid ⟨t, HT.out.1, by have := HT.out.2; omega⟩, by omega⟩
        case measure => rw [iterPos_of hit2, hpos0]; omega
      | false =>
        rw [hg] at hC
        rw [run_stop _ hg] at hpu
        have HC := Lib.hid hC
        have HT := Lib.hid (show pos = Gly.pre (run g q) s.data.toList from by simpa [Gly.pre] using hpu)
        clear hC hg ht hpu hpre hu HU
        go_wp2_with fail
        refine (HC.out _).mono ?_
        rintro e w' ⟨rfl, rfl⟩
        go_wp2_with fail
        go_ret
        exact ⟨by rw [← HT.out]; rfl, hbw2⟩
    · have hnx : ∀ ty, (Instr.next (.pointer (some ⟨w.heap.size, 0, none⟩)) true ty).run Tryd.prog wr = _ := fun ty => Lib.run_next_end_at wr w.heap.size s pos ty hit hp
      obtain rfl := at_end hu hp
      have HT := Lib.hid (show s.size = Gly.pre (run g q) s.data.toList from by rw [run_nil] at hpu; simp [Gly.pre] at hpu; omega)
      clear hu hpu HU
      go_wp2
      go_ret
      exact ⟨by rw [← HT.out]; rfl, hbw⟩

set_option maxHeartbeats 2000000 in
set_option maxRecDepth 100000 in
theorem second_any (s : ByteArray) (r : Nat) (t : List Nat) (hq : Gly.runes s.data.toList = some (r :: t)) (w : World) (hs : s.size ≤ 4000000) :
    Calls Tryd.prog 84 #[.string s] w fun e w' => e = .returned (.int .i32 (t.headD 0 : Nat)) ∧ Below w.heap.size w w' := by
  have HQ := Lib.hid hq
  clear hq
  go_enter Tryd.func84, Tryd.ntmps84
  go_wp2_with fail
  go_loopw [] (fun wr => ∃ (pos : Nat), wr.heap[w.heap.size]? = some (.stringIter s pos) ∧ Below w.heap.size w wr ∧ Hid ((pos = 0 ∧ Gly.runes (s.data.toList.drop pos) = some (r :: t)) ∨ (0 < pos ∧ Gly.runes (s.data.toList.drop pos) = some t)) ∧ pos ≤ s.size) (fun wr => s.size - wr.iterPos w.heap.size)
  case atStart => exact ⟨0, World.iter_heap w s 0, (Below.refl _ _).alloc (Nat.le_refl _) _, Lib.hid (.inl ⟨rfl, HQ.out⟩), by omega⟩
  case round =>
    obtain ⟨pos, hit, hbw, HU, hps⟩ := hrel
    have hpos0 := iterPos_of hit
    by_cases hp : pos < s.size
    · have hnx : ∀ ty, (Instr.next (.pointer (some ⟨w.heap.size, 0, none⟩)) true ty).run Tryd.prog wr = _ := fun ty => Lib.run_next_any_at wr w.heap.size s pos ty hit hp
      have hwd := width s pos hp
      have hit2 := Lib.iterAt_heap wr w.heap.size s pos (pos + (Utf8.decode s pos).2) hit
      have hbw2 := Lib.below_iterAt hbw (k := w.heap.size) (Nat.le_refl _) s (pos + (Utf8.decode s pos).2)
      obtain ⟨W1, hW1⟩ : ∃ W1, W1 = wr.iterAt w.heap.size s (pos + (Utf8.decode s pos).2) := ⟨_, rfl⟩
      rw [← hW1] at hnx hit2 hbw2
      clear hW1 hit hbw
      rcases HU.out with ⟨h0, hu⟩ | ⟨h0, hu⟩
      · obtain ⟨t', he, ht, hmx, hpre⟩ := at_rune hu hp
        obtain rfl : t = t' := (List.cons.inj he).2
        have HT := Lib.hid ht
        subst h0
        clear ht hpre hu HU he
        go_wp2_with fail
        go_roundw
        case rel => exact ⟨_, hit2, hbw2, Lib.hid (.inr ⟨by omega, HT.out⟩), by omega⟩
        case measure => rw [iterPos_of hit2, hpos0]; omega
      · obtain ⟨t', he, ht, hmx, hpre⟩ := at_rune hu hp
        have HT := Lib.hid he
        clear ht hpre hu HU he
        go_wp2_with fail
        go_ret
        exact ⟨by rw [HT.out]; rfl, hbw2⟩
    · have hnx : ∀ ty, (Instr.next (.pointer (some ⟨w.heap.size, 0, none⟩)) true ty).run Tryd.prog wr = _ := fun ty => Lib.run_next_end_at wr w.heap.size s pos ty hit hp
      have HT := Lib.hid (show t = [] by
        rcases HU.out with ⟨h0, hu⟩ | ⟨h0, hu⟩
        · have := at_end hu hp; cases this
        · exact at_end hu hp)
      clear HU
      go_wp2
      go_ret
      exact ⟨by rw [HT.out]; rfl, hbw⟩

/-- The signs, as text. -/
def sgn : ByteArray := ⟨#[123, 125, 91, 93, 40, 41, 61, 59, 44, 58, 35, 42, 124, 38, 45]⟩
theorem sgn_size : sgn.size = 15 := rfl
theorem sgn_decode : ∀ p, p < 15 → (Utf8.decode sgn p).1 = signs.getD p 0 ∧ (Utf8.decode sgn p).2 = 1 ∧ signs.getD p 0 < 128 := by decide +kernel
theorem signs_drop : ∀ {p : Nat}, p < 15 → signs.drop p = signs.getD p 0 :: signs.drop (p + 1) := by
  intro p
  exact (show ∀ p, p < 15 → signs.drop p = signs.getD p 0 :: signs.drop (p + 1) by decide) p

set_option maxHeartbeats 2000000 in
set_option maxRecDepth 100000 in
theorem sign_any (r : Nat) (hr : r ≤ 1114111) (w : World) :
    Calls Tryd.prog 90 #[.int .i32 r] w fun e w' => e = .returned (.bool (sign r)) ∧ Below w.heap.size w w' := by
  go_enter Tryd.func90, Tryd.ntmps90
  go_wp2_with fail
  go_loopw [] (fun wr => ∃ pos : Nat, wr.heap[w.heap.size]? = some (.stringIter sgn pos) ∧ Below w.heap.size w wr ∧ pos ≤ 15 ∧ Hid (sign r = (signs.drop pos).contains r)) (fun wr => 15 - wr.iterPos w.heap.size)
  case atStart => exact ⟨0, World.iter_heap w sgn 0, (Below.refl _ _).alloc (Nat.le_refl _) _, by omega, Lib.hid rfl⟩
  case round =>
    obtain ⟨pos, hit, hbw, hps, HS⟩ := hrel
    have hpos0 := iterPos_of hit
    by_cases hp : pos < 15
    · have hnx : ∀ ty, (Instr.next (.pointer (some ⟨w.heap.size, 0, none⟩)) true ty).run Tryd.prog wr = _ := fun ty => Lib.run_next_any_at wr w.heap.size sgn pos ty hit (by rw [sgn_size]; exact hp)
      obtain ⟨hd1, hd2, hd3⟩ := sgn_decode pos hp
      have hit2 := Lib.iterAt_heap wr w.heap.size sgn pos (pos + (Utf8.decode sgn pos).2) hit
      have hbw2 := Lib.below_iterAt hbw (k := w.heap.size) (Nat.le_refl _) sgn (pos + (Utf8.decode sgn pos).2)
      have hsd := HS.out
      rw [signs_drop hp] at hsd
      rw [hd2] at hnx hit2 hbw2
      rw [hd1] at hnx
      generalize signs.getD pos 0 = c at *
      obtain ⟨W1, hW1⟩ : ∃ W1, W1 = wr.iterAt w.heap.size sgn (pos + 1) := ⟨_, rfl⟩
      rw [← hW1] at hnx hit2 hbw2
      clear hW1 hit hbw hd1 hd2
      by_cases hc : c = r
      · subst hc
        have HT := Lib.hid (show sign c = true by rw [hsd]; simp)
        clear hsd HS
        go_wp2_with fail
        go_ret
        exact ⟨by rw [HT.out]; rfl, hbw2⟩
      · have hne : ((c : Int) == (r : Int)) = false := by simp; omega
        have HT := Lib.hid (show sign r = (signs.drop (pos + 1)).contains r by
          rw [hsd, List.contains_cons]
          have : (r == c) = false := by simp; omega
          rw [this]; rfl)
        clear hsd HS hc
        go_wp2_with fail
        go_roundw
        case rel => exact ⟨_, hit2, hbw2, by omega, HT⟩
        case measure => rw [iterPos_of hit2, hpos0]; omega
    · have hnx : ∀ ty, (Instr.next (.pointer (some ⟨w.heap.size, 0, none⟩)) true ty).run Tryd.prog wr = _ := fun ty => Lib.run_next_end_at wr w.heap.size sgn pos ty hit (by rw [sgn_size]; exact hp)
      obtain rfl : pos = 15 := by omega
      have HT := Lib.hid (show sign r = false by rw [HS.out]; rfl)
      clear HS
      go_wp2
      go_ret
      exact ⟨by rw [HT.out]; rfl, hbw⟩

/-- A place's value. -/
def plV (p : Nat × Nat) : Value := .agg #[.int .i64 (p.1 : Nat), .int .i64 (p.2 : Nat)]

set_option maxHeartbeats 1000000 in
theorem front_any (w : World) : Calls Tryd.prog 61 #[] w fun e w' => e = .returned (plV (1, 1)) ∧ Below w.heap.size w w' := by
  go_enter Tryd.func61, Tryd.ntmps61
  go_wp2
  exact bodyPost_ret (v := plV (1, 1)) (by simp [results, Tryd.results61, go_sem, plV]) rfl ⟨rfl, (Below.refl _ _).alloc (Nat.le_refl _) _⟩

set_option maxHeartbeats 1000000 in
theorem behind_any (p : Nat × Nat) (r : Nat) (h1 : p.1 ≤ 100000000) (h2 : p.2 ≤ 100000000) (hr : r ≤ 1114111) (w : World) :
    Calls Tryd.prog 64 #[plV p, .int .i32 r] w fun e w' => e = .returned (plV (behind p r)) ∧ Below w.heap.size w w' := by
  obtain ⟨a, b⟩ := p
  simp only at h1 h2
  unfold plV
  by_cases h : r = 10
  · subst h
    go_enter Tryd.func64, Tryd.ntmps64
    go_wp2
    exact bodyPost_ret (v := plV (behind (a, b) 10)) (by simp [results, Tryd.results64, go_sem, plV, behind]) rfl ⟨rfl, (((Below.refl _ _).alloc (Nat.le_refl _) _).alloc (by simp) _)⟩
  · have hb : ((r : Int) == 10) = false := by simp; omega
    have HB := Lib.hid (show behind (a, b) r = (a, b + 1) from if_neg h)
    clear h
    go_enter Tryd.func64, Tryd.ntmps64
    go_wp2
    exact bodyPost_ret (v := plV (behind (a, b) r)) (by simp [results, Tryd.results64, go_sem, plV, HB.out]) rfl ⟨rfl, (((Below.refl _ _).alloc (Nat.le_refl _) _).alloc (by simp) _)⟩
end Sg
end Go.Proofs.YtbphmaoomnocmaaDoor
