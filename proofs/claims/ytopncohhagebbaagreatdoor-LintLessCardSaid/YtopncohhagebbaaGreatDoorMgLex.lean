/-
  Layer 6 (sigil): package sigil's kinds of runes; the second rune; how far runes go on.
  Layer 6 (sigil): package sigil's second, span, sign, word, front and behind.
  Layer 6 (sigil): package sigil's word and piece.
  Layer 6 (sigil): package sigil's End.
  Layer 6 (sigil): package sigil's Lex.
  Layer 6 (sigil): a token of a list.
-/
import Derived.Test.YtopncohhagebbaaGreatDoorMgMem
import Derived.Test.YtopncohhagebbaaGreatDoorMgPure
import Derived.RegionTactic
import Derived.BigRegion
namespace Go.Proofs.YtopncohhagebbaaGreatDoor
open Go.RowKit
namespace Sg
open Gl (drop_ne width drop_next drop_end)

theorem at_rune {s : ByteArray} {pos : Nat} {q : List Nat} (h : Gly.runes (s.data.toList.drop pos) = some q) (hp : pos < s.size) :
    ∃ t, q = (Utf8.decode s pos).1 :: t ∧ Gly.runes (s.data.toList.drop (pos + (Utf8.decode s pos).2)) = some t ∧ (Utf8.decode s pos).1 ≤ 1114111 ∧
      ∀ n, Gly.pre (n + 1) (s.data.toList.drop pos) = (Utf8.decode s pos).2 + Gly.pre n (s.data.toList.drop (pos + (Utf8.decode s pos).2)) := by
  have hne := drop_ne hp
  have hb := Gly.runes_good h hne
  have hmx := Gly.dec_max _ hne
  rw [← Gly.dec_at] at hmx
  rw [Gly.runes_step hne hb, drop_next] at h
  cases hu : Gly.runes (s.data.toList.drop (pos + (Utf8.decode s pos).2)) with
  | none => rw [hu] at h; cases h
  | some u =>
    rw [hu, ← Gly.dec_at] at h
    refine ⟨u, (Option.some.inj h).symm, rfl, hmx, fun n => ?_⟩
    rw [Gly.pre_step hne, drop_next, Gly.dec_at]
theorem at_end {s : ByteArray} {pos : Nat} {q : List Nat} (h : Gly.runes (s.data.toList.drop pos) = some q) (hp : ¬ pos < s.size) : q = [] := by
  rw [drop_end hp, Gly.runes_nil] at h
  exact (Option.some.inj h).symm

set_option maxHeartbeats 1000000 in
theorem letter_any (r : Nat) (hr : r ≤ 1114111) (w : World) :
    Calls Tryz.prog 158 #[.int .i32 r] w fun e w' => e = .returned (.bool (letter r)) ∧ w = w' := by
  by_cases h1 : 97 ≤ r
  · by_cases h2 : r ≤ 122
    · have d : letter r = true := by simp [letter]; omega
      have D := Lib.hid d; clear d
      go_enter Tryz.func158, Tryz.ntmps158
      go_wp2
      go_ret
      exact ⟨by rw [D.out]; simp; try omega, rfl⟩
    · have d : letter r = false := by simp [letter]; omega
      have D := Lib.hid d; clear d
      go_enter Tryz.func158, Tryz.ntmps158
      go_wp2
      go_ret
      exact ⟨by rw [D.out]; simp; try omega, rfl⟩
  · have d : letter r = false := by simp [letter]; omega
    have D := Lib.hid d; clear d
    go_enter Tryz.func158, Tryz.ntmps158
    go_wp2
    go_ret
    exact ⟨by rw [D.out]; simp; try omega, rfl⟩

set_option maxHeartbeats 1000000 in
theorem inLine_any (r : Nat) (hr : r ≤ 1114111) (w : World) :
    Calls Tryz.prog 157 #[.int .i32 r] w fun e w' => e = .returned (.bool (inLine r)) ∧ w = w' := by
  have d : inLine r = ((r : Int) != 10) := by
    by_cases h : r = 10
    · subst h; rfl
    · have h1 : ((r : Int) != 10) = true := by simp; omega
      rw [h1]; simp [inLine, h]
  have D := Lib.hid d; clear d
  go_enter Tryz.func157, Tryz.ntmps157
  go_wp2
  go_ret
  exact ⟨by rw [D.out]; rfl, rfl⟩

set_option maxHeartbeats 1000000 in
theorem inWord_any (r : Nat) (hr : r ≤ 1114111) (w : World) :
    Calls Tryz.prog 172 #[.int .i32 r] w fun e w' => e = .returned (.bool (inWord r)) ∧ w = w' := by
  have hl := fun W => letter_any r hr W
  cases hc : letter r with
  | true =>
    have d := letter_inWord hc
    rw [hc] at hl
    have D := Lib.hid d; have HL := Lib.hid hl; clear d hl hc
    go_enter Tryz.func172, Tryz.ntmps172
    go_wp2_with (go_at_call 158; refine (HL.out _).mono ?_; rintro e w' ⟨rfl, rfl⟩)
    go_ret
    exact ⟨by rw [D.out]; rfl, rfl⟩
  | false =>
    have hcc : ¬ (97 ≤ r ∧ r ≤ 122) := by simpa [letter] using hc
    rw [hc] at hl
    have HL := Lib.hid hl; clear hl hc
    by_cases h0 : r = 95
    · subst h0
      go_enter Tryz.func172, Tryz.ntmps172
      go_wp2_with (go_at_call 158; refine (HL.out _).mono ?_; rintro e w' ⟨rfl, rfl⟩)
      go_ret
      exact ⟨rfl, rfl⟩
    · have b0 : ((r : Int) == 95) = false := by simp; omega
      by_cases h1 : 48 ≤ r
      · by_cases h2 : r ≤ 57
        · have d : inWord r = true := by simp [inWord]; omega
          have D := Lib.hid d; clear d hcc
          go_enter Tryz.func172, Tryz.ntmps172
          go_wp2_with (go_at_call 158; refine (HL.out _).mono ?_; rintro e w' ⟨rfl, rfl⟩)
          go_ret
          exact ⟨by rw [D.out]; simp; try omega, rfl⟩
        · have d : inWord r = false := by simp [inWord]; omega
          have D := Lib.hid d; clear d hcc
          go_enter Tryz.func172, Tryz.ntmps172
          go_wp2_with (go_at_call 158; refine (HL.out _).mono ?_; rintro e w' ⟨rfl, rfl⟩)
          go_ret
          exact ⟨by rw [D.out]; simp; try omega, rfl⟩
      · have d : inWord r = false := by simp [inWord]; omega
        have D := Lib.hid d; clear d hcc
        go_enter Tryz.func172, Tryz.ntmps172
        go_wp2_with (go_at_call 158; refine (HL.out _).mono ?_; rintro e w' ⟨rfl, rfl⟩)
        go_ret
        exact ⟨by rw [D.out]; simp; try omega, rfl⟩

set_option maxHeartbeats 1000000 in
theorem blank_any (r : Nat) (hr : r ≤ 1114111) (w : World) :
    Calls Tryz.prog 155 #[.int .i32 r] w fun e w' => e = .returned (.bool (blank r)) ∧ w = w' := by
  by_cases h : r = 9 ∨ r = 10 ∨ r = 13 ∨ r = 32 ∨ r = 12288
  · rcases h with rfl | rfl | rfl | rfl | rfl
    all_goals
      go_enter Tryz.func155, Tryz.ntmps155
      go_wp2
      go_ret
      exact ⟨rfl, rfl⟩
  · have b1 : ((r : Int) == 9) = false := by simp; omega
    have b2 : ((r : Int) == 10) = false := by simp; omega
    have b3 : ((r : Int) == 13) = false := by simp; omega
    have b4 : ((r : Int) == 32) = false := by simp; omega
    have b5 : ((r : Int) == 12288) = false := by simp; omega
    have d : blank r = false := by simp [blank]; omega
    have D := Lib.hid d; clear d h
    go_enter Tryz.func155, Tryz.ntmps155
    go_wp2
    go_ret
    exact ⟨by rw [D.out]; rfl, rfl⟩
end Sg
end Go.Proofs.YtopncohhagebbaaGreatDoor

namespace Go.Proofs.YtopncohhagebbaaGreatDoor
open Go.RowKit
namespace Sg
open Gl (drop_ne width drop_next drop_end)

abbrev fnv (f : FuncId) : Value := .func (.func f) #[] #[]
structure Asks (f : FuncId) (g : Nat → Bool) : Prop where
  enter : ∀ args x, (callFunc f args).run Tryz.prog x = .ok (.enter f args) x
  ask : ∀ (r : Nat) (_ : r ≤ 1114111) (w : World), Calls Tryz.prog f #[.int .i32 r] w fun e w' => e = .returned (.bool (g r)) ∧ w = w'
theorem asks_blank : Asks 155 blank := ⟨fun args x => by kernel_rfl, blank_any⟩
theorem asks_inLine : Asks 157 inLine := ⟨fun args x => by kernel_rfl, inLine_any⟩
theorem asks_inWord : Asks 172 inWord := ⟨fun args x => by kernel_rfl, inWord_any⟩

set_option maxHeartbeats 2000000 in
set_option maxRecDepth 100000 in
theorem span_any {f : FuncId} {g : Nat → Bool} (H : Asks f g) (s : ByteArray) (q : List Nat) (hq : Gly.runes s.data.toList = some q) (w : World) (hs : s.size ≤ 4000000) :
    Calls Tryz.prog 156 #[.string s, fnv f] w fun e w' => e = .returned (.int .i64 (Gly.pre (run g q) s.data.toList : Nat)) ∧ Below w.heap.size w w' := by
  have HE := H.enter
  have HA := Lib.hid H.ask
  have HQ := Lib.hid hq
  clear H hq
  go_enter Tryz.func156, Tryz.ntmps156
  go_wp2_with fail
  go_loopw [] (fun wr => ∃ (pos : Nat), wr.heap[w.heap.size]? = some (.stringIter s pos) ∧ Below w.heap.size w wr ∧ Hid (∃ u, Gly.runes (s.data.toList.drop pos) = some u ∧ pos + Gly.pre (run g u) (s.data.toList.drop pos) = Gly.pre (run g q) s.data.toList) ∧ pos ≤ s.size) (fun wr => s.size - wr.iterPos w.heap.size)
  case atStart => exact ⟨0, World.iter_heap w s 0, (Below.refl _ _).alloc (Nat.le_refl _) _, Lib.hid ⟨q, HQ.out, by simp⟩, by omega⟩
  case round =>
    obtain ⟨pos, hit, hbw, HU, hps⟩ := hrel
    have hpos0 := iterPos_of hit
    obtain ⟨u, hu, hpu⟩ := HU.out
    by_cases hp : pos < s.size
    · have hnx : ∀ ty, (Instr.next (.pointer (some ⟨w.heap.size, 0, none⟩)) true ty).run Tryz.prog wr = _ := fun ty => Lib.run_next_any_at wr w.heap.size s pos ty hit hp
      have hwd := width s pos hp
      have hit2 := Lib.iterAt_heap wr w.heap.size s pos (pos + (Utf8.decode s pos).2) hit
      have hbw2 := Lib.below_iterAt hbw (k := w.heap.size) (Nat.le_refl _) s (pos + (Utf8.decode s pos).2)
      obtain ⟨W1, hW1⟩ : ∃ W1, W1 = wr.iterAt w.heap.size s (pos + (Utf8.decode s pos).2) := ⟨_, rfl⟩
      rw [← hW1] at hnx hit2 hbw2
      clear hW1 hit hbw
      obtain ⟨t, rfl, ht, hmx, hpre⟩ := at_rune hu hp
      have hC := fun W => HA.out (Utf8.decode s pos).1 hmx W
      cases hg : g (Utf8.decode s pos).1 with
      | true =>
        rw [hg] at hC
        rw [run_cons _ hg, hpre] at hpu
        have HC := Lib.hid hC
        have HT := Lib.hid (And.intro ht hpu)
        clear hC hg ht hpu hpre hu HU
        go_wp2_with fail
        refine (HC.out _).mono ?_
        rintro e w' ⟨rfl, rfl⟩
        go_wp2_with fail
        go_roundw
        case rel => exact ⟨_, hit2, hbw2, Lib.hid ⟨t, HT.out.1, by have := HT.out.2; omega⟩, by omega⟩
        case measure => rw [iterPos_of hit2, hpos0]; omega
      | false =>
        rw [hg] at hC
        rw [run_stop _ hg] at hpu
        have HC := Lib.hid hC
        have HT := Lib.hid (show pos = Gly.pre (run g q) s.data.toList from by simpa [Gly.pre] using hpu)
        clear hC hg ht hpu hpre hu HU
        go_wp2_with fail
        refine (HC.out _).mono ?_
        rintro e w' ⟨rfl, rfl⟩
        go_wp2_with fail
        go_ret
        exact ⟨by rw [← HT.out]; rfl, hbw2⟩
    · have hnx : ∀ ty, (Instr.next (.pointer (some ⟨w.heap.size, 0, none⟩)) true ty).run Tryz.prog wr = _ := fun ty => Lib.run_next_end_at wr w.heap.size s pos ty hit hp
      obtain rfl := at_end hu hp
      have HT := Lib.hid (show s.size = Gly.pre (run g q) s.data.toList from by rw [run_nil] at hpu; simp [Gly.pre] at hpu; omega)
      clear hu hpu HU
      go_wp2
      go_ret
      exact ⟨by rw [← HT.out]; rfl, hbw⟩

set_option maxHeartbeats 2000000 in
set_option maxRecDepth 100000 in
theorem second_any (s : ByteArray) (r : Nat) (t : List Nat) (hq : Gly.runes s.data.toList = some (r :: t)) (w : World) (hs : s.size ≤ 4000000) :
    Calls Tryz.prog 154 #[.string s] w fun e w' => e = .returned (.int .i32 (t.headD 0 : Nat)) ∧ Below w.heap.size w w' := by
  have HQ := Lib.hid hq
  clear hq
  go_enter Tryz.func154, Tryz.ntmps154
  go_wp2_with fail
  go_loopw [] (fun wr => ∃ (pos : Nat), wr.heap[w.heap.size]? = some (.stringIter s pos) ∧ Below w.heap.size w wr ∧ Hid ((pos = 0 ∧ Gly.runes (s.data.toList.drop pos) = some (r :: t)) ∨ (0 < pos ∧ Gly.runes (s.data.toList.drop pos) = some t)) ∧ pos ≤ s.size) (fun wr => s.size - wr.iterPos w.heap.size)
  case atStart => exact ⟨0, World.iter_heap w s 0, (Below.refl _ _).alloc (Nat.le_refl _) _, Lib.hid (.inl ⟨rfl, HQ.out⟩), by omega⟩
  case round =>
    obtain ⟨pos, hit, hbw, HU, hps⟩ := hrel
    have hpos0 := iterPos_of hit
    by_cases hp : pos < s.size
    · have hnx : ∀ ty, (Instr.next (.pointer (some ⟨w.heap.size, 0, none⟩)) true ty).run Tryz.prog wr = _ := fun ty => Lib.run_next_any_at wr w.heap.size s pos ty hit hp
      have hwd := width s pos hp
      have hit2 := Lib.iterAt_heap wr w.heap.size s pos (pos + (Utf8.decode s pos).2) hit
      have hbw2 := Lib.below_iterAt hbw (k := w.heap.size) (Nat.le_refl _) s (pos + (Utf8.decode s pos).2)
      obtain ⟨W1, hW1⟩ : ∃ W1, W1 = wr.iterAt w.heap.size s (pos + (Utf8.decode s pos).2) := ⟨_, rfl⟩
      rw [← hW1] at hnx hit2 hbw2
      clear hW1 hit hbw
      rcases HU.out with ⟨h0, hu⟩ | ⟨h0, hu⟩
      · obtain ⟨t', he, ht, hmx, hpre⟩ := at_rune hu hp
        obtain rfl : t = t' := (List.cons.inj he).2
        have HT := Lib.hid ht
        subst h0
        clear ht hpre hu HU he
        go_wp2_with fail
        go_roundw
        case rel => exact ⟨_, hit2, hbw2, Lib.hid (.inr ⟨by omega, HT.out⟩), by omega⟩
        case measure => rw [iterPos_of hit2, hpos0]; omega
      · obtain ⟨t', he, ht, hmx, hpre⟩ := at_rune hu hp
        have HT := Lib.hid he
        clear ht hpre hu HU he
        go_wp2_with fail
        go_ret
        exact ⟨by rw [HT.out]; rfl, hbw2⟩
    · have hnx : ∀ ty, (Instr.next (.pointer (some ⟨w.heap.size, 0, none⟩)) true ty).run Tryz.prog wr = _ := fun ty => Lib.run_next_end_at wr w.heap.size s pos ty hit hp
      have HT := Lib.hid (show t = [] by
        rcases HU.out with ⟨h0, hu⟩ | ⟨h0, hu⟩
        · have := at_end hu hp; cases this
        · exact at_end hu hp)
      clear HU
      go_wp2
      go_ret
      exact ⟨by rw [HT.out]; rfl, hbw⟩

def sgn : ByteArray := ⟨#[123, 125, 91, 93, 40, 41, 61, 59, 44, 58, 35, 42, 124, 38, 45]⟩
theorem sgn_size : sgn.size = 15 := rfl
theorem sgn_decode : ∀ p, p < 15 → (Utf8.decode sgn p).1 = signs.getD p 0 ∧ (Utf8.decode sgn p).2 = 1 ∧ signs.getD p 0 < 128 := by decide +kernel
theorem signs_drop : ∀ {p : Nat}, p < 15 → signs.drop p = signs.getD p 0 :: signs.drop (p + 1) := by
  intro p
  exact (show ∀ p, p < 15 → signs.drop p = signs.getD p 0 :: signs.drop (p + 1) by decide) p

set_option maxHeartbeats 2000000 in
set_option maxRecDepth 100000 in
theorem sign_any (r : Nat) (hr : r ≤ 1114111) (w : World) :
    Calls Tryz.prog 160 #[.int .i32 r] w fun e w' => e = .returned (.bool (sign r)) ∧ Below w.heap.size w w' := by
  go_enter Tryz.func160, Tryz.ntmps160
  go_wp2_with fail
  go_loopw [] (fun wr => ∃ pos : Nat, wr.heap[w.heap.size]? = some (.stringIter sgn pos) ∧ Below w.heap.size w wr ∧ pos ≤ 15 ∧ Hid (sign r = (signs.drop pos).contains r)) (fun wr => 15 - wr.iterPos w.heap.size)
  case atStart => exact ⟨0, World.iter_heap w sgn 0, (Below.refl _ _).alloc (Nat.le_refl _) _, by omega, Lib.hid rfl⟩
  case round =>
    obtain ⟨pos, hit, hbw, hps, HS⟩ := hrel
    have hpos0 := iterPos_of hit
    by_cases hp : pos < 15
    · have hnx : ∀ ty, (Instr.next (.pointer (some ⟨w.heap.size, 0, none⟩)) true ty).run Tryz.prog wr = _ := fun ty => Lib.run_next_any_at wr w.heap.size sgn pos ty hit (by rw [sgn_size]; exact hp)
      obtain ⟨hd1, hd2, hd3⟩ := sgn_decode pos hp
      have hit2 := Lib.iterAt_heap wr w.heap.size sgn pos (pos + (Utf8.decode sgn pos).2) hit
      have hbw2 := Lib.below_iterAt hbw (k := w.heap.size) (Nat.le_refl _) sgn (pos + (Utf8.decode sgn pos).2)
      have hsd := HS.out
      rw [signs_drop hp] at hsd
      rw [hd2] at hnx hit2 hbw2
      rw [hd1] at hnx
      generalize signs.getD pos 0 = c at *
      obtain ⟨W1, hW1⟩ : ∃ W1, W1 = wr.iterAt w.heap.size sgn (pos + 1) := ⟨_, rfl⟩
      rw [← hW1] at hnx hit2 hbw2
      clear hW1 hit hbw hd1 hd2
      by_cases hc : c = r
      · subst hc
        have HT := Lib.hid (show sign c = true by rw [hsd]; simp)
        clear hsd HS
        go_wp2_with fail
        go_ret
        exact ⟨by rw [HT.out]; rfl, hbw2⟩
      · have hne : ((c : Int) == (r : Int)) = false := by simp; omega
        have HT := Lib.hid (show sign r = (signs.drop (pos + 1)).contains r by
          rw [hsd, List.contains_cons]
          have : (r == c) = false := by simp; omega
          rw [this]; rfl)
        clear hsd HS hc
        go_wp2_with fail
        go_roundw
        case rel => exact ⟨_, hit2, hbw2, by omega, HT⟩
        case measure => rw [iterPos_of hit2, hpos0]; omega
    · have hnx : ∀ ty, (Instr.next (.pointer (some ⟨w.heap.size, 0, none⟩)) true ty).run Tryz.prog wr = _ := fun ty => Lib.run_next_end_at wr w.heap.size sgn pos ty hit (by rw [sgn_size]; exact hp)
      obtain rfl : pos = 15 := by omega
      have HT := Lib.hid (show sign r = false by rw [HS.out]; rfl)
      clear HS
      go_wp2
      go_ret
      exact ⟨by rw [HT.out]; rfl, hbw⟩

def plV (p : Nat × Nat) : Value := .agg #[.int .i64 (p.1 : Nat), .int .i64 (p.2 : Nat)]

set_option maxHeartbeats 1000000 in
theorem front_any (w : World) : Calls Tryz.prog 120 #[] w fun e w' => e = .returned (plV (1, 1)) ∧ Below w.heap.size w w' := by
  go_enter Tryz.func120, Tryz.ntmps120
  go_wp2
  exact bodyPost_ret (v := plV (1, 1)) (by simp [results, Tryz.results120, go_sem, plV]) rfl ⟨rfl, (Below.refl _ _).alloc (Nat.le_refl _) _⟩

set_option maxHeartbeats 1000000 in
theorem behind_any (p : Nat × Nat) (r : Nat) (h1 : p.1 ≤ 100000000) (h2 : p.2 ≤ 100000000) (hr : r ≤ 1114111) (w : World) :
    Calls Tryz.prog 122 #[plV p, .int .i32 r] w fun e w' => e = .returned (plV (behind p r)) ∧ Below w.heap.size w w' := by
  obtain ⟨a, b⟩ := p
  simp only at h1 h2
  unfold plV
  by_cases h : r = 10
  · subst h
    go_enter Tryz.func122, Tryz.ntmps122
    go_wp2
    exact bodyPost_ret (v := plV (behind (a, b) 10)) (by simp [results, Tryz.results122, go_sem, plV, behind]) rfl ⟨rfl, (((Below.refl _ _).alloc (Nat.le_refl _) _).alloc (by simp) _)⟩
  · have hb : ((r : Int) == 10) = false := by simp; omega
    have HB := Lib.hid (show behind (a, b) r = (a, b + 1) from if_neg h)
    clear h
    go_enter Tryz.func122, Tryz.ntmps122
    go_wp2
    exact bodyPost_ret (v := plV (behind (a, b) r)) (by simp [results, Tryz.results122, go_sem, plV, HB.out]) rfl ⟨rfl, (((Below.refl _ _).alloc (Nat.le_refl _) _).alloc (by simp) _)⟩
end Sg
end Go.Proofs.YtopncohhagebbaaGreatDoor

namespace Go.Proofs.YtopncohhagebbaaGreatDoor
open Go.RowKit
namespace Sg
open Gl (drop_ne width drop_next drop_end)

theorem low_bytes : ∀ (m : Nat) (l : List UInt8) (q : List Nat), Gly.runes l = some q → m ≤ q.length → (∀ r ∈ q.take m, r < 128) → Gly.pre m l = m ∧ l.take m = (q.take m).map Nat.toUInt8
  | 0, l, q, _, _, _ => by simp [Gly.pre]
  | m + 1, l, q, h, hm, hlow => by
    cases q with
    | nil => simp at hm
    | cons r t =>
      have hl := Gly.runes_ne h (by simp)
      have hb := Gly.runes_good h hl
      rw [Gly.runes_step hl hb] at h
      cases hu : Gly.runes (l.drop (Gly.dec l).2) with
      | none => rw [hu] at h; cases h
      | some u =>
        rw [hu] at h
        obtain ⟨rfl, rfl⟩ : (Gly.dec l).1 = r ∧ u = t := List.cons.inj (Option.some.inj h)
        have hr : (Gly.dec l).1 < 128 := hlow _ (by simp)
        have hd : Gly.dec l = (Gly.byte l 0, 1) := by
          have h0 := Gly.byte_lt l 0; have h1 := Gly.byte_lt l 1; have h2 := Gly.byte_lt l 2; have h3 := Gly.byte_lt l 3
          rcases Gly.dec_cases l hl with ⟨_, e⟩ | ⟨_, _, _, _, _, e⟩ | ⟨_, _, _, _, _, _, _, e⟩ | ⟨_, _, _, _, _, _, _, _, e⟩ | ⟨_, e⟩
          · exact e
          · rw [e] at hr; simp only at hr; omega
          · rw [e] at hr; simp only at hr; omega
          · rw [e] at hr; simp only at hr; omega
          · rw [e] at hr; simp at hr
        have h2 := low_bytes m _ u hu (by simpa using hm) (fun x hx => hlow x (by rw [List.take_succ_cons]; exact List.mem_cons_of_mem _ hx))
        rw [hd] at h2
        simp only at h2
        refine ⟨by rw [Gly.pre_step hl, hd]; simp only; omega, ?_⟩
        rw [List.take_succ_cons, List.map_cons, ← h2.2, hd]
        conv => lhs; rw [Gly.cons_byte hl]
        rw [List.take_succ_cons]
        congr 1
        simp [Gly.byte]

theorem low_inj : ∀ (a b : List Nat), (∀ r ∈ a, r < 128) → (∀ r ∈ b, r < 128) → a.map Nat.toUInt8 = b.map Nat.toUInt8 → a = b
  | [], [], _, _, _ => rfl
  | [], _ :: _, _, _, h => by simp at h
  | _ :: _, [], _, _, h => by simp at h
  | x :: a, y :: b, ha, hb, h => by
    rw [List.map_cons, List.map_cons] at h
    obtain ⟨h1, h2⟩ := List.cons.inj h
    have hx := ha x (by simp); have hy := hb y (by simp)
    have := congrArg UInt8.toNat h1
    simp at this
    rw [Nat.mod_eq_of_lt (by omega), Nat.mod_eq_of_lt (by omega)] at this
    rw [this, low_inj a b (fun r hr => ha r (by simp [hr])) (fun r hr => hb r (by simp [hr])) h2]

def kindB (x : ByteArray) : Int := if x.toList == [116, 121, 112, 101] then 2 else if x.toList == [114, 101, 108] then 3 else if x.toList == [116, 104, 105, 115] then 4 else 1
theorem kindB_low {x : ByteArray} {t : List Nat} (h : x.data.toList = t.map Nat.toUInt8) (ht : ∀ r ∈ t, r < 128) : kindB x = kindOf t := by
  have key : ∀ (k : List Nat), (∀ r ∈ k, r < 128) → ((x.toList == k.map Nat.toUInt8) = true ↔ t = k) := fun k hk => by
    rw [Lib.toList_data, h, beq_iff_eq]
    constructor
    · exact low_inj _ _ ht hk
    · rintro rfl; rfl
  have k1 : (x.toList == [116, 121, 112, 101]) = true ↔ t = [116, 121, 112, 101] := key [116, 121, 112, 101] (by decide)
  have k2 : (x.toList == [114, 101, 108]) = true ↔ t = [114, 101, 108] := key [114, 101, 108] (by decide)
  have k3 : (x.toList == [116, 104, 105, 115]) = true ↔ t = [116, 104, 105, 115] := key [116, 104, 105, 115] (by decide)
  unfold kindB kindOf
  simp only [k1, k2, k3]

set_option maxHeartbeats 2000000 in
set_option maxRecDepth 100000 in
theorem word_any (s : ByteArray) (q : List Nat) (hq : Gly.runes s.data.toList = some q) (w : World) (hs : s.size ≤ 4000000) :
    Calls Tryz.prog 159 #[.string s] w fun e w' => e = .returned (.tuple #[.int .i64 (word q).1, .int .i64 (Gly.pre (word q).2 s.data.toList : Nat)]) ∧ Below w.heap.size w w' := by
  have hsp := fun W => span_any asks_inWord s q hq W hs
  obtain ⟨hp, ht⟩ := low_bytes _ _ q hq (run_le inWord q) (fun r hr => inWord_low (run_all r hr))
  have hle : Gly.pre (run inWord q) s.data.toList ≤ s.size := by have := Gly.pre_le (run inWord q) s.data.toList; rw [← Lib.size_eq] at this; exact this
  rw [hp] at hsp hle
  by_cases hw : 16 < run inWord q
  · have hv : (word q).1 = 0 ∧ (word q).2 = 0 := by rw [word, if_pos hw]; exact ⟨rfl, rfl⟩
    rw [hv.1, hv.2]
    have HC := Lib.hid hsp
    clear hp ht hsp hv
    generalize run inWord q = m at *
    go_enter Tryz.func159, Tryz.ntmps159
    go_wp2_with (go_at_call 156; refine (HC.out _).mono ?_; rintro e w' ⟨rfl, hb⟩)
    go_ret2
    exact ⟨rfl, hb⟩
  · have hv : (word q).1 = kindOf (q.take (run inWord q)) ∧ (word q).2 = run inWord q := by rw [word, if_neg hw]; exact ⟨rfl, rfl⟩
    rw [hv.1, hv.2, hp]
    have hx : (s.extract 0 (run inWord q)).data.toList = (q.take (run inWord q)).map Nat.toUInt8 := by rw [← ht, Lib.extract_data]; simp
    rw [← kindB_low hx (fun r hr => inWord_low (run_all r hr))]
    have HC := Lib.hid hsp
    clear hp ht hsp hv hx
    have hle' : run inWord q ≤ 16 := by omega
    generalize run inWord q = m at *
    generalize hxx : s.extract 0 m = x
    have hsl : ∀ W, (Instr.slice 9 (.string s) none (some (.int .i64 (m : Nat))) none).run Tryz.prog W = .ok (.string x) W := fun W => by
      rw [← hxx]
      go_simp
      try rfl
    clear hxx
    go_enter Tryz.func159, Tryz.ntmps159
    go_wp2_with (go_at_call 156; refine (HC.out _).mono ?_; rintro e w' ⟨rfl, hb⟩)
    all_goals
      go_ret2
      refine ⟨?_, hb⟩
      first
        | (have hk : kindB x = 2 := by simp [kindB, *]
           rw [hk]; rfl)
        | (have hk : kindB x = 3 := by simp [kindB, *]
           rw [hk]; rfl)
        | (have hk : kindB x = 4 := by simp [kindB, *]
           rw [hk]; rfl)
        | (have hk : kindB x = 1 := by simp [kindB, *]
           rw [hk]; rfl)

set_option maxHeartbeats 4000000 in
set_option maxRecDepth 100000 in
theorem piece_any (s : ByteArray) (r : Nat) (t : List Nat) (hq : Gly.runes s.data.toList = some (r :: t)) (hr : r ≤ 1114111) (w : World) (hs : s.size ≤ 4000000) :
    Calls Tryz.prog 121 #[.string s, .int .i32 r] w fun e w' => e = .returned (.tuple #[.int .i64 (piece (r :: t)).1, .int .i64 (Gly.pre (piece (r :: t)).2 s.data.toList : Nat)]) ∧ Below w.heap.size w w' := by
  have HSE := Lib.hid (fun W => second_any s r t hq W hs)
  have hbl := fun W => blank_any r hr W
  have hle := fun W => letter_any r hr W
  have hsi := fun W => sign_any r hr W
  have hlow : Gly.pre 0 s.data.toList = 0 ∧ ((piece (r :: t)).1 ≠ -1 → Gly.pre (piece (r :: t)).2 s.data.toList = (piece (r :: t)).2) :=
    ⟨rfl, fun h => (low_bytes _ _ _ hq (piece_le _) (piece_low h)).1⟩
  have hc := piece_cases r t
  have hhd : ∀ x : Nat, t.headD 0 = x → x ≠ 0 → ∃ u, t = x :: u := fun x h hx => headD_ne h hx
  generalize hn : t.headD 0 = n at *
  have HN := Lib.hid hn
  clear hn hhd
  rcases hc with ⟨h1, e⟩ | ⟨h1, h2, h3, e⟩ | ⟨h1, h2, h3, h4, h5, e⟩ | ⟨h1, h2, h3, h4, h5, e⟩ | ⟨h1, h2, h3, h4, e⟩ | ⟨h1, h2, h3, h4, e⟩ | ⟨h1, h2, h3, h4, e⟩
  · have HSP := Lib.hid (fun W => span_any asks_blank s (r :: t) hq W hs)
    rw [h1] at hbl
    rw [e]
    have HBL := Lib.hid hbl
    clear e h1 hbl hle hsi hlow hq HN
    generalize Gly.pre (run blank (r :: t)) s.data.toList = m at *
    go_enter Tryz.func121, Tryz.ntmps121
    go_wp2_with (first
      | (go_at_call 154; refine (HSE.out _).mono ?_; rintro e w1 ⟨rfl, hb1⟩)
      | (go_at_call 155; refine (HBL.out _).mono ?_; rintro e w' ⟨rfl, rfl⟩)
      | (go_at_call 156; refine (HSP.out _).mono ?_; rintro e w2 ⟨rfl, hb2⟩))
    go_ret2
    exact ⟨rfl, hb1.trans (hb2.mono hb1.size)⟩
  · have HSP := Lib.hid (fun W => span_any asks_inLine s (r :: t) hq W hs)
    rw [h1] at hbl
    rw [e]
    have HBL := Lib.hid hbl
    clear e h1 hbl hle hsi hlow hq HN
    generalize Gly.pre (run inLine (r :: t)) s.data.toList = m at *
    subst h2 h3
    go_enter Tryz.func121, Tryz.ntmps121
    go_wp2_with (first
      | (go_at_call 154; refine (HSE.out _).mono ?_; rintro e w1 ⟨rfl, hb1⟩)
      | (go_at_call 155; refine (HBL.out _).mono ?_; rintro e w' ⟨rfl, rfl⟩)
      | (go_at_call 156; refine (HSP.out _).mono ?_; rintro e w2 ⟨rfl, hb2⟩))
    go_ret2
    exact ⟨rfl, hb1.trans (hb2.mono hb1.size)⟩
  · have hwo : piece (r :: t) = word (r :: t) := by rw [e, word, if_neg (by omega)]
    have HW := Lib.hid (fun W => word_any s (r :: t) hq W hs)
    rw [h1] at hbl
    rw [h2] at hle
    rw [hwo]
    have HBL := Lib.hid hbl
    have HLE := Lib.hid hle
    have b1 : ((r : Int) == 47) = false := by simp; omega
    clear e h1 h2 h5 hbl hle hsi hlow hq HN hwo
    generalize Gly.pre (word (r :: t)).2 s.data.toList = m at *
    generalize (word (r :: t)).1 = k at *
    go_enter Tryz.func121, Tryz.ntmps121
    go_wp2_with (first
      | (go_at_call 154; refine (HSE.out _).mono ?_; rintro e w1 ⟨rfl, hb1⟩)
      | (go_at_call 155; refine (HBL.out _).mono ?_; rintro e w' ⟨rfl, rfl⟩)
      | (go_at_call 158; refine (HLE.out _).mono ?_; rintro e w' ⟨rfl, rfl⟩)
      | (go_at_call 159; refine (HW.out _).mono ?_; rintro e w2 ⟨rfl, hb2⟩))
    go_ret2
    exact ⟨rfl, hb1.trans (hb2.mono hb1.size)⟩
  · have hwo : piece (r :: t) = word (r :: t) := by rw [e, word, if_pos (by omega)]
    have HW := Lib.hid (fun W => word_any s (r :: t) hq W hs)
    rw [h1] at hbl
    rw [h2] at hle
    rw [hwo]
    have HBL := Lib.hid hbl
    have HLE := Lib.hid hle
    have b1 : ((r : Int) == 47) = false := by simp; omega
    clear e h1 h2 h5 hbl hle hsi hlow hq HN hwo
    generalize Gly.pre (word (r :: t)).2 s.data.toList = m at *
    generalize (word (r :: t)).1 = k at *
    go_enter Tryz.func121, Tryz.ntmps121
    go_wp2_with (first
      | (go_at_call 154; refine (HSE.out _).mono ?_; rintro e w1 ⟨rfl, hb1⟩)
      | (go_at_call 155; refine (HBL.out _).mono ?_; rintro e w' ⟨rfl, rfl⟩)
      | (go_at_call 158; refine (HLE.out _).mono ?_; rintro e w' ⟨rfl, rfl⟩)
      | (go_at_call 159; refine (HW.out _).mono ?_; rintro e w2 ⟨rfl, hb2⟩))
    go_ret2
    exact ⟨rfl, hb1.trans (hb2.mono hb1.size)⟩
  · rw [e] at hlow
    rw [e, hlow.2 (by decide)]
    rw [h1] at hbl
    rw [h2] at hle
    have HBL := Lib.hid hbl
    have HLE := Lib.hid hle
    clear e h1 h2 hbl hle hsi hlow hq HN
    subst h3 h4
    go_enter Tryz.func121, Tryz.ntmps121
    go_wp2_with (first
      | (go_at_call 154; refine (HSE.out _).mono ?_; rintro e w1 ⟨rfl, hb1⟩)
      | (go_at_call 155; refine (HBL.out _).mono ?_; rintro e w' ⟨rfl, rfl⟩)
      | (go_at_call 158; refine (HLE.out _).mono ?_; rintro e w' ⟨rfl, rfl⟩))
    go_ret2
    exact ⟨rfl, hb1⟩
  · have hsl := sign_low h3
    rw [e] at hlow
    rw [e, hlow.2 (by simp only; omega)]
    rw [h1] at hbl
    rw [h2] at hle
    rw [h3] at hsi
    have HBL := Lib.hid hbl
    have HLE := Lib.hid hle
    have HSI := Lib.hid hsi
    have b1 : ((r : Int) == 47) = false := by have := hsl.2.2.2.1; simp; omega
    clear e h1 h2 h3 hbl hle hsi hlow hq HN hsl
    by_cases h45 : r = 45
    · subst h45
      have b2 : ((n : Int) == 62) = false := by simp; omega
      clear b1 h4
      go_enter Tryz.func121, Tryz.ntmps121
      go_wp2_with (first
        | (go_at_call 154; refine (HSE.out _).mono ?_; rintro e w1 ⟨rfl, hb1⟩)
        | (go_at_call 155; refine (HBL.out _).mono ?_; rintro e w' ⟨rfl, rfl⟩)
        | (go_at_call 158; refine (HLE.out _).mono ?_; rintro e w' ⟨rfl, rfl⟩)
        | (go_at_call 160; refine (HSI.out _).mono ?_; rintro e w2 ⟨rfl, hb2⟩))
      go_ret2
      exact ⟨rfl, hb1.trans (hb2.mono hb1.size)⟩
    · have b2 : ((r : Int) == 45) = false := by simp; omega
      clear h4 h45
      go_enter Tryz.func121, Tryz.ntmps121
      go_wp2_with (first
        | (go_at_call 154; refine (HSE.out _).mono ?_; rintro e w1 ⟨rfl, hb1⟩)
        | (go_at_call 155; refine (HBL.out _).mono ?_; rintro e w' ⟨rfl, rfl⟩)
        | (go_at_call 158; refine (HLE.out _).mono ?_; rintro e w' ⟨rfl, rfl⟩)
        | (go_at_call 160; refine (HSI.out _).mono ?_; rintro e w2 ⟨rfl, hb2⟩))
      go_ret2
      exact ⟨rfl, hb1.trans (hb2.mono hb1.size)⟩
  · rw [e, hlow.1]
    rw [h1] at hbl
    rw [h2] at hle
    rw [h3] at hsi
    have HBL := Lib.hid hbl
    have HLE := Lib.hid hle
    have HSI := Lib.hid hsi
    have b2 : ((r : Int) == 45) = false := by
      have : r ≠ 45 := by rintro rfl; exact absurd h3 (by decide)
      simp; omega
    clear e h1 h2 h3 hbl hle hsi hlow hq HN
    by_cases h47 : r = 47
    · subst h47
      have b1 : ((n : Int) == 47) = false := by simp; omega
      clear b2 h4
      go_enter Tryz.func121, Tryz.ntmps121
      go_wp2_with (first
        | (go_at_call 154; refine (HSE.out _).mono ?_; rintro e w1 ⟨rfl, hb1⟩)
        | (go_at_call 155; refine (HBL.out _).mono ?_; rintro e w' ⟨rfl, rfl⟩)
        | (go_at_call 158; refine (HLE.out _).mono ?_; rintro e w' ⟨rfl, rfl⟩)
        | (go_at_call 160; refine (HSI.out _).mono ?_; rintro e w2 ⟨rfl, hb2⟩))
      go_ret2
      exact ⟨rfl, hb1.trans (hb2.mono hb1.size)⟩
    · have b1 : ((r : Int) == 47) = false := by simp; omega
      clear h4 h47
      go_enter Tryz.func121, Tryz.ntmps121
      go_wp2_with (first
        | (go_at_call 154; refine (HSE.out _).mono ?_; rintro e w1 ⟨rfl, hb1⟩)
        | (go_at_call 155; refine (HBL.out _).mono ?_; rintro e w' ⟨rfl, rfl⟩)
        | (go_at_call 158; refine (HLE.out _).mono ?_; rintro e w' ⟨rfl, rfl⟩)
        | (go_at_call 160; refine (HSI.out _).mono ?_; rintro e w2 ⟨rfl, hb2⟩))
      go_ret2
      exact ⟨rfl, hb1.trans (hb2.mono hb1.size)⟩
end Sg
end Go.Proofs.YtopncohhagebbaaGreatDoor

namespace Go.Proofs.YtopncohhagebbaaGreatDoor
open Go.RowKit
namespace Sg
open Gl (drop_ne width drop_next drop_end)

def told (l : List UInt8) : List Nat :=
  if _h : l = [] then [] else (Gly.dec l).1 :: told (l.drop (Gly.dec l).2)
termination_by l.length
decreasing_by exact Gly.drop_lt (by assumption)
def PlB (R : Nat) (p : Nat × Nat) (x : World) : Prop := x.heap[R]? = some (.cells #[.int .i64 (p.1 : Nat), .int .i64 (p.2 : Nat)] 73 (0, 0))
theorem PlB.lt {R : Nat} {p : Nat × Nat} {x : World} (h : PlB R p x) : R < x.heap.size := (Array.getElem?_eq_some_iff.1 h).1
theorem PlB.cells {R : Nat} {p : Nat × Nat} {x : World} (h : PlB R p x) : x.cell? ⟨R, 0, none⟩ = some (.int .i64 (p.1 : Nat)) ∧ x.cell? ⟨R, 1, none⟩ = some (.int .i64 (p.2 : Nat)) :=
  ⟨by rw [Lib.cell_of_heap h]; rfl, by rw [Lib.cell_of_heap h]; rfl⟩
theorem PlB.free {R : Nat} {p : Nat × Nat} {x : World} (h : PlB R p x) : x.frozen? ⟨R, 0, none⟩ = false ∧ x.frozen? ⟨R, 1, none⟩ = false := by
  constructor <;> · unfold World.frozen?; rw [h]; rfl
theorem PlB.on {R : Nat} {p : Nat × Nat} {x y : World} (h : PlB R p x) (hb : Below x.heap.size x y) : PlB R p y := (hb.block R h.lt).trans h

theorem PlB.of_iter {R k : Nat} {p : Nat × Nat} {x : World} (h : PlB R p x) (hk : R ≠ k) (s : ByteArray) (pos : Nat) : PlB R p (x.iterAt k s pos) := (Lib.iterAt_other x k R s pos hk).trans h
theorem PlB.new (w : World) (p : Nat × Nat) : PlB w.heap.size p (w.alloc (.cells #[.int .i64 (p.1 : Nat), .int .i64 (p.2 : Nat)] 73)) := heap_alloc_new w _
theorem PlB.put {R : Nat} {p : Nat × Nat} {x : World} (h : PlB R p x) (a b : Nat) : PlB R (a, b) ((x.setCell ⟨R, 0, none⟩ (.int .i64 (a : Nat))).setCell ⟨R, 1, none⟩ (.int .i64 (b : Nat))) := by
  have h1 := Lib.heap_setCell_same (i := 0) h (.int .i64 (a : Nat))
  have h2 := Lib.heap_setCell_same (i := 1) h1 (.int .i64 (b : Nat))
  exact h2
theorem put_cells {R : Nat} {p : Nat × Nat} {x : World} (h : PlB R p x) (a b : Nat) :
    (x.setCell ⟨R, 0, none⟩ (.int .i64 (a : Nat))).cell? ⟨R, 0, none⟩ = some (.int .i64 (a : Nat)) ∧ ((x.setCell ⟨R, 0, none⟩ (.int .i64 (a : Nat))).setCell ⟨R, 1, none⟩ (.int .i64 (b : Nat))).cell? ⟨R, 1, none⟩ = some (.int .i64 (b : Nat)) := by
  have h1 := Lib.heap_setCell_same (i := 0) h (.int .i64 (a : Nat))
  exact ⟨by rw [Lib.cell_of_heap h1]; rfl, (h.put a b).cells.2⟩
def setPl (x : World) (P : Nat) (p : Nat × Nat) : World := (x.setCell ⟨P, 0, none⟩ (.int .i64 (p.1 : Nat))).setCell ⟨P, 1, none⟩ (.int .i64 (p.2 : Nat))
theorem setPl_other (x : World) (P : Nat) (p : Nat × Nat) {k : Nat} (hk : k ≠ P) : (setPl x P p).heap[k]? = x.heap[k]? :=
  (Below.heap_setCell _ _ _ k hk).trans (Below.heap_setCell _ _ _ k hk)
theorem setPl_below {w x : World} {B P : Nat} (p : Nat × Nat) (h : Below B w x) (hB : B ≤ P) : Below B w (setPl x P p) := (h.setCell (p := ⟨P, 0, none⟩) hB _).setCell (p := ⟨P, 1, none⟩) hB _
theorem PlB.set {P : Nat} {p : Nat × Nat} {x : World} (h : PlB P p x) (q : Nat × Nat) : PlB P q (setPl x P q) := h.put q.1 q.2
theorem setPl_size (x : World) (P : Nat) (p : Nat × Nat) : (setPl x P p).heap.size = x.heap.size := by simp [setPl, World.setCell]
end Sg
end Go.Proofs.YtopncohhagebbaaGreatDoor

namespace Go.Proofs.YtopncohhagebbaaGreatDoor
open Go.RowKit
namespace Sg
open Gl (drop_ne width drop_next drop_end)
open Tr (IsElem own_below own_slice wp_rows)
open Knot (Turns NewRow)

set_option maxRecDepth 100000 in
theorem toks_elem : ∃ i z b, IsElem Tryz.prog 152 189 i z 4 b ∧ b ≤ 100 := by
  refine ⟨_, _, _, ⟨by kernel_rfl, rfl, rfl, by kernel_rfl, rfl, by kernel_rfl, by omega⟩, ?_⟩
  exact of_decide_eq_true (by kernel_rfl)
def txt (l : List Nat) : ByteArray := ⟨(l.map Nat.toUInt8).toArray⟩
def tokC (t : Tok) : List Value := [.int .i64 t.kind, .string (txt t.text), .int .i64 (t.at'.1 : Nat), .int .i64 (t.at'.2 : Nat)]
def toksC (l : List Tok) : List Value := l.flatMap tokC
theorem toksC_snoc (l : List Tok) (t : Tok) : toksC (l ++ [t]) = toksC l ++ tokC t := by simp [toksC]
theorem own_mono {w : World} {B C n c : Nat} {e : TypeId} {v : Value} {xs : List Value} (h : w.ownsRow B e c v n xs) (hC : C ≤ B) : w.ownsRow C e c v n xs := by
  refine ⟨h.1, ?_⟩
  rcases h.2 with h | ⟨g, cap, cur, hv, hb, r⟩
  · exact .inl h
  · exact .inr ⟨g, cap, cur, hv, by omega, r⟩
def LexOut (a : Int × (Nat × Nat) × List Tok) (w : World) (e : Ending) (w' : World) : Prop :=
  ∃ v, e = .returned (.tuple #[v, plV a.2.1, .int .i64 a.1]) ∧ w'.ownsRow w.heap.size 189 4 v a.2.2.length (toksC a.2.2) ∧ Below w.heap.size w w'

theorem txt_take {s : ByteArray} {pos : Nat} {u : List Nat} (hu : Gly.runes (s.data.toList.drop pos) = some u) (h1 : (piece u).1 ≠ -1) :
    Gly.pre (piece u).2 (s.data.toList.drop pos) = (piece u).2 ∧ s.extract pos (pos + (piece u).2) = txt (u.take (piece u).2) := by
  obtain ⟨h, ht⟩ := low_bytes _ _ _ hu (piece_le u) (piece_low h1)
  refine ⟨h, ?_⟩
  have hx : (s.extract pos (pos + (piece u).2)).data.toList = (u.take (piece u).2).map Nat.toUInt8 := by
    rw [Lib.extract_data, ← ht]; simp
  unfold txt
  rw [← hx]
theorem pre_eq {s : ByteArray} {pos k : Nat} (hp : pos < s.size) : Gly.pre k (s.data.toList.drop pos) = 0 ↔ k = 0 := by
  cases k with
  | zero => simp [Gly.pre]
  | succ k =>
    rw [Gly.pre_step (drop_ne hp)]
    have := Gly.dec_width _ (drop_ne hp)
    omega

theorem put_zero {R : Nat} {p : Nat × Nat} {x : World} (h : PlB R p x) :
    (x.setCell ⟨R, 0, none⟩ (.int .i64 0)).cell? ⟨R, 0, none⟩ = some (.int .i64 0) ∧ ((x.setCell ⟨R, 0, none⟩ (.int .i64 0)).setCell ⟨R, 1, none⟩ (.int .i64 0)).cell? ⟨R, 1, none⟩ = some (.int .i64 0) := put_cells h 0 0

set_option maxHeartbeats 4000000 in
set_option maxRecDepth 100000 in
theorem lex_none (s : ByteArray) (w : World) (hs : s.size ≤ 4000000) (hq : Gly.runes s.data.toList = none) :
    Calls Tryz.prog 91 #[.string s] w (LexOut (ans none) w) := by
  have hcn := fun W => Gl.count_any s W hs
  have H0 := Lib.hid (And.intro (PlB.new w (0, 0)) ((Below.refl w.heap.size w).alloc (Nat.le_refl _) (.cells #[.int .i64 0, .int .i64 0] 73)))
  rw [Gly.cnt, hq] at hcn
  have HC := Lib.hid hcn
  clear hcn hq
  go_enter Tryz.func91, Tryz.ntmps91
  go_wp2_with (go_at_call 119; refine (HC.out _).mono ?_; rintro e w1 ⟨rfl, b1⟩; unfold Option.map Gl.cntV; obtain ⟨f0, f1⟩ := (H0.out.1.on b1).free; obtain ⟨d0, d1⟩ := (H0.out.1.on b1).cells)
  obtain ⟨g0, g1⟩ := put_zero (H0.out.1.on b1)
  refine bodyPost_ret (v := .tuple #[.slice none 0 0, plV (0, 0), .int .i64 4]) (by simp [results, Tryz.results91, go_sem, plV, g0, g1]) rfl ⟨.slice none 0 0, rfl, World.ownsRow_nil _ _ _ _, ?_⟩
  exact setPl_below (0, 0) (H0.out.2.trans (b1.mono (by simp))) (Nat.le_refl _)

set_option maxHeartbeats 4000000 in
set_option maxRecDepth 100000 in
theorem lex_full (s : ByteArray) (w : World) (hs : s.size ≤ 4000000) (q : List Nat) (hq : Gly.runes s.data.toList = some q) (hl : 3000 < q.length) :
    Calls Tryz.prog 91 #[.string s] w (LexOut (ans (some q)) w) := by
  have hcn := fun W => Gl.count_any s W hs
  have H0 := Lib.hid (And.intro (PlB.new w (0, 0)) ((Below.refl w.heap.size w).alloc (Nat.le_refl _) (.cells #[.int .i64 0, .int .i64 0] 73)))
  rw [Gly.cnt, hq, Option.map_some, Nat.zero_add] at hcn
  have hlt : decide (3000 < (q.length : Int)) = true := by simp; omega
  rw [ans_long hl]
  have HC := Lib.hid hcn
  clear hcn hq
  go_enter Tryz.func91, Tryz.ntmps91
  go_wp2_with (go_at_call 119; refine (HC.out _).mono ?_; rintro e w1 ⟨rfl, b1⟩; unfold Gl.cntV; obtain ⟨f0, f1⟩ := (H0.out.1.on b1).free; obtain ⟨d0, d1⟩ := (H0.out.1.on b1).cells)
  obtain ⟨g0, g1⟩ := put_zero (H0.out.1.on b1)
  refine bodyPost_ret (v := .tuple #[.slice none 0 0, plV (0, 0), .int .i64 3]) (by simp [results, Tryz.results91, go_sem, plV, g0, g1]) rfl ⟨.slice none 0 0, rfl, World.ownsRow_nil _ _ _ _, ?_⟩
  exact setPl_below (0, 0) (H0.out.2.trans (b1.mono (by simp))) (Nat.le_refl _)

structure Mem (w : World) (P : Nat) (s : ByteArray) (pos : Nat) (p : Nat × Nat) (v : Value) (acc : List Tok) (x : World) : Prop where
  it : x.heap[P + 1]? = some (.stringIter s pos)
  box : PlB P p x
  res : PlB w.heap.size (0, 0) x
  below : Below w.heap.size w x
  own : x.ownsRow (P + 2) 189 4 v acc.length (toksC acc)
section
variable {w : World} {P : Nat} {s : ByteArray} {pos : Nat} {p : Nat × Nat} {v : Value} {acc : List Tok} {x y : World}
theorem Mem.size (h : Mem w P s pos p v acc x) : P + 2 ≤ x.heap.size := by have := (Array.getElem?_eq_some_iff.1 h.it).1; omega
theorem Mem.on (h : Mem w P s pos p v acc x) (hb : Below x.heap.size x y) : Mem w P s pos p v acc y :=
  ⟨(hb.block (P + 1) (by have := h.size; omega)).trans h.it, h.box.on hb, h.res.on hb, h.below.trans (hb.mono h.below.size), own_below h.own hb⟩
theorem Mem.iter (h : Mem w P s pos p v acc x) (hP : w.heap.size < P) (pos' : Nat) : Mem w P s pos' p v acc (x.iterAt (P + 1) s pos') :=
  ⟨Lib.iterAt_heap x (P + 1) s pos pos' h.it, h.box.of_iter (by omega) s pos', h.res.of_iter (by omega) s pos', Lib.below_iterAt h.below (by omega) s pos',
    Tr.own_turn (F := fun k => k = P + 1) h.own ⟨rfl, rfl, rfl, by rw [Lib.iterAt_size]; exact Nat.le_refl _, fun k _ hk => Lib.iterAt_other x (P + 1) k s pos' hk⟩ fun k hk e => by have := (h.own.lt k hk).1; omega⟩
theorem Mem.set (h : Mem w P s pos p v acc x) (hP : w.heap.size < P) (p' : Nat × Nat) : Mem w P s pos p' v acc (setPl x P p') :=
  ⟨(setPl_other x P p' (by omega)).trans h.it, h.box.set p', (setPl_other x P p' (by omega)).trans h.res, setPl_below p' h.below (by omega),
    Tr.own_turn (F := fun k => k = P) h.own ⟨rfl, rfl, rfl, by rw [setPl_size]; exact Nat.le_refl _, fun k _ hk => setPl_other x P p' hk⟩ fun k hk e => by have := (h.own.lt k hk).1; omega⟩
theorem Mem.grow (h : Mem w P s pos p v acc x) (hP : w.heap.size < P) (hb : Below (P + 2) x y) {v' : Value} {t : Tok} (ho : y.ownsRow (P + 2) 189 4 v' (acc.length + 1) (toksC acc ++ tokC t)) : Mem w P s pos p v' (acc ++ [t]) y :=
  ⟨(hb.block (P + 1) (by omega)).trans h.it, (hb.block P (by omega)).trans h.box, (hb.block w.heap.size (by omega)).trans h.res, h.below.trans (hb.mono (by omega)), by rw [toksC_snoc, List.length_append]; exact ho⟩
theorem Mem.res_set (h : Mem w P s pos p v acc x) (hP : w.heap.size < P) (p' : Nat × Nat) : (setPl x w.heap.size p').drew.ownsRow (P + 2) 189 4 v acc.length (toksC acc) :=
  Tr.own_turn (x := (setPl x w.heap.size p').drew) (F := fun k => k = w.heap.size) h.own ⟨rfl, rfl, rfl, by rw [show (setPl x w.heap.size p').drew.heap = (setPl x w.heap.size p').heap from rfl, setPl_size]; exact Nat.le_refl _, fun k _ hk => setPl_other x w.heap.size p' hk⟩ fun k hk e => by have := (h.own.lt k hk).1; omega
end

set_option maxHeartbeats 8000000 in
set_option maxRecDepth 100000 in
theorem lex_some (s : ByteArray) (w : World) (hs : s.size ≤ 4000000) (q : List Nat) (hq : Gly.runes s.data.toList = some q) (hl : ¬ 3000 < q.length) :
    Calls Tryz.prog 91 #[.string s] w (LexOut (ans (some q)) w) := by
  have hcn := fun W => Gl.count_any s W hs
  have H0 := Lib.hid (And.intro (PlB.new w (0, 0)) ((Below.refl w.heap.size w).alloc (Nat.le_refl _) (.cells #[.int .i64 0, .int .i64 0] 73)))
  rw [Gly.cnt, hq, Option.map_some, Nat.zero_add] at hcn
  have hlt : decide (3000 < (q.length : Int)) = false := by simp; omega
  have HC := Lib.hid hcn
  have HQ := Lib.hid hq
  have HB := Lib.hid behind_any
  have HL := Lib.hid hl
  clear hcn hq hl
  go_enter Tryz.func91, Tryz.ntmps91
  go_wp2_with (first
    | (go_at_call 119; refine (HC.out _).mono ?_; rintro e w1 ⟨rfl, b1⟩; unfold Gl.cntV)
    | (go_at_call 120; refine (front_any _).mono ?_; rintro e w2 ⟨rfl, b2⟩; unfold plV))
  have hz1 : w.heap.size < w1.heap.size := by have := b1.size; simp at this; omega
  have hz2 : w1.heap.size ≤ w2.heap.size := b2.size
  have hM : Mem w w2.heap.size s 0 (1, 1) (.slice none 0 0) [] ((w2.alloc (Obj.cells #[.int .i64 ((1 : Nat) : Int), .int .i64 ((1 : Nat) : Int)] 73)).iter s 0) := by
    have hal : Below w2.heap.size w2 (w2.alloc (Obj.cells #[.int .i64 ((1 : Nat) : Int), .int .i64 ((1 : Nat) : Int)] 73)) := (Below.refl _ _).alloc (Nat.le_refl _) _
    have hal2 : Below (w2.heap.size + 1) (w2.alloc (Obj.cells #[.int .i64 ((1 : Nat) : Int), .int .i64 ((1 : Nat) : Int)] 73)) ((w2.alloc (Obj.cells #[.int .i64 ((1 : Nat) : Int), .int .i64 ((1 : Nat) : Int)] 73)).iter s 0) := (Below.refl _ _).alloc (by simp) _
    refine ⟨?_, (hal2.block w2.heap.size (by omega)).trans (PlB.new w2 (1, 1)), ((H0.out.1.on b1).on b2).on (hal.trans (hal2.mono (by omega))), ?_, World.ownsRow_nil _ _ _ _⟩
    · have := World.iter_heap (w2.alloc (Obj.cells #[.int .i64 ((1 : Nat) : Int), .int .i64 ((1 : Nat) : Int)] 73)) s 0
      simpa using this
    · exact ((H0.out.2.trans (b1.mono (by simp))).trans (b2.mono (by omega))).trans ((hal.trans (hal2.mono (by omega))).mono (by omega))
  have HM := Lib.hid hM
  have hPw : w.heap.size < w2.heap.size := by omega
  clear hM b1 b2 hz1 hz2 hlt H0 HC
  generalize w2.heap.size = P at *
  go_loopw [7, 9] (fun v nx wr => ∃ (pos k : Nat) (p : Nat × Nat) (u : List Nat) (acc : List Tok), nx = .int .i64 ((pos + Gly.pre k (s.data.toList.drop pos) : Nat) : Int) ∧ Hid (Mem w P s pos p v acc wr) ∧ Hid (Gly.runes (s.data.toList.drop pos) = some u ∧ Inv q u p k acc) ∧ acc.length ≤ pos ∧ p.1 ≤ pos + 1 ∧ p.2 ≤ pos + 1 ∧ pos ≤ s.size) (fun _ _ wr => s.size - wr.iterPos (P + 1))
  case atStart => exact ⟨0, 0, (1, 1), q, [], rfl, HM, Lib.hid ⟨HQ.out, inv_start q⟩, by simp, by simp, by simp, by omega⟩
  case round =>
    obtain ⟨pos, k, p, u, acc, rfl, HR, HU, hac, hp1, hp2, hps⟩ := hrel
    obtain ⟨vo, vc, rfl⟩ := own_slice HR.out.own
    have hpos0 := iterPos_of HR.out.it
    by_cases hp : pos < s.size
    · have hnx : ∀ ty, (Instr.next (.pointer (some ⟨P + 1, 0, none⟩)) true ty).run Tryz.prog wr = _ := fun ty => Lib.run_next_any_at wr (P + 1) s pos ty HR.out.it hp
      have hwd := width s pos hp
      obtain ⟨t, rfl, ht, hmx, hpre⟩ := at_rune HU.out.1 hp
      have hlt := behind_le p (Utf8.decode s pos).1
      have M1 := Lib.hid (HR.out.iter hPw (pos + (Utf8.decode s pos).2))
      have hle : ∀ k, pos + Gly.pre k (s.data.toList.drop pos) ≤ s.size := fun k => by
        have := Gly.pre_le k (s.data.toList.drop pos)
        rw [List.length_drop, ← Lib.size_eq] at this
        omega
      have hlek := hle k
      have hlem := hle (piece ((Utf8.decode s pos).1 :: t)).2
      have hz := pre_eq (s := s) (k := k) hp
      have HN := Lib.hid (show pos + Gly.pre k (s.data.toList.drop pos) = pos + Gly.pre k (s.data.toList.drop pos) from rfl)
      clear hle
      obtain ⟨W1, hW1⟩ : ∃ W1, W1 = wr.iterAt (P + 1) s (pos + (Utf8.decode s pos).2) := ⟨_, rfl⟩
      rw [← hW1] at hnx M1
      have HPR := Lib.hid hpre
      have HT := Lib.hid ht
      have HZ := Lib.hid hz
      clear hW1 HR hpre ht hz
      generalize hnn : pos + Gly.pre k (s.data.toList.drop pos) = nx at *
      have HNN := Lib.hid hnn
      clear hnn HN
      generalize hpo : pos + (Utf8.decode s pos).2 = pos' at *
      have HPO := Lib.hid hpo
      clear hpo
      generalize hrr : (Utf8.decode s pos).1 = r at *
      have HRR := Lib.hid hrr
      clear hrr
      by_cases hk : k = 0
      · subst hk
        obtain rfl : pos = nx := HNN.out
        have hex : (s.extract pos s.size).data.toList = s.data.toList.drop pos := Gl.extract_list s pos
        have hpc := fun W => piece_any (s.extract pos s.size) r t (by rw [hex]; exact HU.out.1) hmx W (by rw [Lib.size_eq, hex, List.length_drop, ← Lib.size_eq]; omega)
        rw [hex] at hpc
        have hne : r :: t ≠ [] := by simp
        have hsz := piece_size (r :: t)
        have htx := txt_take (s := s) (pos := pos) HU.out.1
        have hI := HU.out.2
        have hib := inv_bad (u := r :: t) hI hne
        have hig := inv_gap (u := r :: t) hI hne
        have hit := inv_tok (u := r :: t) hI hne
        have hsl : ∀ W, (Instr.slice 9 (.string s) (some (.int .i64 (pos : Nat))) none none).run Tryz.prog W = .ok (.string (s.extract pos s.size)) W := fun W => by
          go_simp
          try rfl
        have HPC := Lib.hid hpc
        have HSZ := Lib.hid hsz
        have HTX := Lib.hid htx
        have HIB := Lib.hid hib
        have HIG := Lib.hid hig
        have HIT := Lib.hid hit
        clear hpc hsz htx hib hig hit hI hex hne HU HM HNN HZ hlek
        generalize hx : s.extract pos s.size = xs at *
        clear hx
        generalize hkd : (piece (r :: t)).1 = kd at *
        generalize hmm : Gly.pre (piece (r :: t)).2 (s.data.toList.drop pos) = m at *
        have HKD := Lib.hid hkd
        have HMM := Lib.hid hmm
        clear hkd hmm
        by_cases h0 : kd = 0
        · subst h0
          have HA := Lib.hid (show ans (some q) = (10, p, []) from by rw [ans_bad HL.out (by rw [HIB.out rfl]), HIB.out rfl])
          have hPw2 : ¬ P = w.heap.size := by omega
          clear HTX HIT HIG HIB HSZ HKD
          go_wp2_with (go_at_call 121; refine (HPC.out _).mono ?_; rintro e w3 ⟨rfl, b3⟩; have M3 := Lib.hid (M1.out.on b3))
          obtain ⟨c0, c1⟩ := M3.out.box.cells
          obtain ⟨f0, f1⟩ := M3.out.res.free
          obtain ⟨d0, d1⟩ := M3.out.res.cells
          obtain ⟨g0, g1⟩ := put_cells M3.out.res p.1 p.2
          go_region
          go_wp2_with fail
          refine bodyPost_ret (v := .tuple #[.slice none 0 0, plV p, .int .i64 10]) (by simp [results, Tryz.results91, go_sem, plV, g0, g1]) rfl ⟨.slice none 0 0, by rw [HA.out], ?_, ?_⟩
          · rw [HA.out]
            exact World.ownsRow_nil _ _ _ _
          · exact (setPl_below p M3.out.below (Nat.le_refl _)).drew
        · by_cases h1 : kd = -1
          · subst h1
            obtain ⟨k', hk'⟩ : ∃ j, (piece (r :: t)).2 = j + 1 := ⟨(piece (r :: t)).2 - 1, by have := HSZ.out.2.1 (by omega); omega⟩
            have HI := Lib.hid (inv_next (k := k') (by rw [← hk']; exact HIG.out rfl))
            have HN2 := Lib.hid (show pos' + Gly.pre k' (s.data.toList.drop pos') = pos + m from by
              have h1 := HMM.out; have h2 := HPR.out k'; have h3 := HPO.out
              rw [hk'] at h1
              omega)
            clear hk' h0
            go_wp2_with (go_at_call 121; refine (HPC.out _).mono ?_; rintro e w3 ⟨rfl, b3⟩; have M3 := Lib.hid (M1.out.on b3); obtain ⟨c0, c1⟩ := M3.out.box.cells)
            refine (HB.out p r (by omega) (by omega) hmx _).mono ?_
            rintro e w5 ⟨rfl, b5⟩
            have M5 := M3.out.on b5
            obtain ⟨f0, f1⟩ := M5.box.free
            obtain ⟨d0, d1⟩ := M5.box.cells
            have M6 := Lib.hid (M5.set hPw (behind p r))
            clear M5 b5 c0 c1 M3
            unfold plV
            go_wp2_with fail
            go_roundw
            case rel => exact ⟨pos', k', behind p r, t, acc, by rw [HN2.out]; simp, M6, Lib.hid ⟨HT.out, HI.out⟩, by have := HPO.out; omega, by have := HPO.out; omega, by have := HPO.out; omega, by have := HPO.out; omega⟩
            case measure =>
              have h1 := iterPos_of M6.out.it
              unfold setPl at h1
              have := HPO.out
              rw [h1, hpos0]; omega
          · obtain ⟨k', hk'⟩ : ∃ j, (piece (r :: t)).2 = j + 1 := ⟨(piece (r :: t)).2 - 1, by have := HSZ.out.2.1 h0; omega⟩
            obtain ⟨hm, hxt⟩ := HTX.out h1
            have HI := Lib.hid (inv_next (k := k') (by rw [← hk']; exact HIT.out h0 h1))
            have HN2 := Lib.hid (show pos' + Gly.pre k' (s.data.toList.drop pos') = pos + m from by
              have h1 := HMM.out; have h2 := HPR.out k'; have h3 := HPO.out
              rw [hk'] at h1
              omega)
            have b1 : (kd == 0) = false := by simpa using h0
            have b2 : (kd != -1) = true := by simpa using h1
            have hsl2 : ∀ W, (Instr.slice 9 (.string s) (some (.int .i64 (pos : Nat))) (some (.int .i64 ((pos : Int) + (m : Int)))) none).run Tryz.prog W = .ok (.string (txt ((r :: t).take (piece (r :: t)).2))) W := fun W => by
              rw [← hxt, ← hm, ← Int.natCast_add, run_slice_string W 9 s .i64 .i64 (pos : Int) ((pos + m : Nat) : Int) Tryz.underlying9 (by omega) (by omega) (by omega), Int.toNat_natCast, Int.toNat_natCast]
            have hwr : IntKind.i64.wrap ((pos : Int) + (m : Int)) = (pos : Int) + (m : Int) := by rw [IntKind.wrap_i64]; omega
            generalize htt : txt ((r :: t).take (piece (r :: t)).2) = tx at *
            have htxs : tx.size ≤ 4000000 := by
              have h2 := HSZ.out.1
              have h3 : tx.size = ((r :: t).take (piece (r :: t)).2).length := by rw [← htt]; simp [txt, ByteArray.size]
              rw [List.length_take] at h3
              omega
            have hbs : ∀ W, (Instr.buildSlice 152 1 #[(0, .agg #[.int .i64 kd, .string tx, .int .i64 (p.1 : Nat), .int .i64 (p.2 : Nat)])]).run Tryz.prog W = .ok (.slice (some ⟨W.heap.size, 0, none⟩) 1 1) (W.alloc (.cells #[.int .i64 kd, .string tx, .int .i64 (p.1 : Nat), .int .i64 (p.2 : Nat)] 189)) := fun W => by kernel_rfl
            have HTT := Lib.hid htt
            have HHM := Lib.hid hm
            clear hk' h0 h1 hm hxt htt HIG HIB HTX
            go_wp2_with (go_at_call 121; refine (HPC.out _).mono ?_; rintro e w3 ⟨rfl, b3⟩; have M3 := Lib.hid (M1.out.on b3))
            refine Order.region_begin (S := Below (P + 2) w3.drew) (by kernel_rfl) ?_
            have HX := Lib.hid (show ∀ x, Below (P + 2) w3.drew x → x.cell? ⟨P, 0, none⟩ = some (.int .i64 (p.1 : Nat)) ∧ x.cell? ⟨P, 1, none⟩ = some (.int .i64 (p.2 : Nat)) from fun x hx => (show PlB P p x from (hx.block P (by omega)).trans M3.out.box).cells)
            refine Order.reads_any (idx := [0, 1, 2, 3, 4, 5, 6, 7, 9]) (by kernel_rfl) (Below.refl _ _) (fun _ _ _ _ _ h => Order.noPanic_put h) 5 _ _ (by decide +kernel) ?_
            simp only [Order.pick, List.getElem?_toArray, List.getElem?_cons_zero, List.getElem?_cons_succ]
            repeat (first
              | (refine Order.reads_off (by rfl) ?_
                 simp only [Act.put, List.setIfInBounds_toArray, List.set_cons_zero, List.set_cons_succ])
              | (apply Order.reads_on
                 · rfl
                 · intro x hx
                   first
                     | (go_simp; rfl)
                     | (obtain ⟨c0, c1⟩ := HX.out x hx
                        go_simp; rfl)
                 simp only [Act.put, List.setIfInBounds_toArray, List.set_cons_zero, List.set_cons_succ]))
            refine Order.reads_end ?_
            apply Order.acts_any (R := Below (P + 2)) (fun h k => h.trans k) (i := 8)
            · rfl
            · decide +kernel
            · rfl
            unfold Oper.wp
            go_simp
            refine Calls.mono (Who.clone_any tx _ htxs) ?_
            rintro e w4 ⟨rfl, b4⟩
            have b4' : Below w3.heap.size w3 w4 := (Below.refl _ _).drew.trans b4
            have M4 := Lib.hid (M3.out.on b4')
            have hP4 : P + 2 ≤ w4.heap.size := M4.out.size
            refine ⟨b4.mono (by show P + 2 ≤ w3.heap.size; exact M3.out.size), ?_⟩
            clear b4 b4' M3 HX b3 M1
            refine Order.reads_any (idx := [10]) (by kernel_rfl) (Below.refl _ _) (fun _ _ _ _ _ h => Order.noPanic_put h) 3 _ _ (by decide +kernel) ?_
            simp only [Order.pick, List.getElem?_toArray, List.getElem?_cons_zero, List.getElem?_cons_succ]
            repeat (first
              | (refine Order.reads_off (by rfl) ?_
                 simp only [Act.put, List.setIfInBounds_toArray, List.set_cons_zero, List.set_cons_succ])
              | (apply Order.reads_on
                 · rfl
                 · intro x hx
                   first
                     | (go_simp; rfl)
                     | (fail
                        go_simp; rfl)
                 simp only [Act.put, List.setIfInBounds_toArray, List.set_cons_zero, List.set_cons_succ]))
            refine Order.reads_end ?_
            apply Order.acts_any (R := Below (P + 2)) (fun h k => h.trans k) (i := 11)
            · rfl
            · decide +kernel
            · rfl
            unfold Oper.wp
            go_simp
            have hal := (Below.refl w4.heap.size w4).alloc (Nat.le_refl _) (Obj.cells #[.int .i64 kd, .string tx, .int .i64 (p.1 : Nat), .int .i64 (p.2 : Nat)] 189)
            refine ⟨hal.mono hP4, ?_⟩
            have hnew := heap_alloc_new w4 (Obj.cells #[.int .i64 kd, .string tx, .int .i64 (p.1 : Nat), .int .i64 (p.2 : Nat)] 189)
            have M8 := Lib.hid (M4.out.on hal)
            obtain ⟨ti, tz, tb, T, hT⟩ := toks_elem
            have hcl : ∀ j u, (tokC ⟨kd, (r :: t).take (piece (r :: t)).2, p⟩)[j]? = some u → (w4.alloc (Obj.cells #[.int .i64 kd, .string tx, .int .i64 (p.1 : Nat), .int .i64 (p.2 : Nat)] 189)).cell? ((⟨w4.heap.size, 0, none⟩ : Addr).add j) = some u := by
              intro j u hj
              rw [Tr.addp, Nat.zero_add, Lib.cell_of_heap hnew]
              rw [tokC, HTT.out] at hj
              simpa using hj
            have hz8 : P + 2 ≤ (w4.alloc (Obj.cells #[.int .i64 kd, .string tx, .int .i64 (p.1 : Nat), .int .i64 (p.2 : Nat)] 189)).heap.size := M8.out.size
            clear hnew hal M4 hP4 hsl hsl2 hbs
            generalize hy : w4.alloc (Obj.cells #[.int .i64 kd, .string tx, .int .i64 (p.1 : Nat), .int .i64 (p.2 : Nat)] 189) = y at *
            clear hy
            apply Order.acts_any (R := Below (P + 2)) (fun h k => h.trans k) (i := 12)
            · rfl
            · decide +kernel
            · rfl
            refine wp_rows T _ _ rfl rfl rfl M8.out.own hz8 (m := 1) (news := tokC ⟨kd, (r :: t).take (piece (r :: t)).2, p⟩) rfl hcl (by intro u hu; simp [tokC] at hu; rcases hu with rfl | rfl | rfl | rfl <;> rfl) (by omega) (Nat.le_trans (Nat.mul_le_mul_left _ hT) (by omega)) ?_
            intro v2 z o2 g2 n2
            have hbz : Below (P + 2) y z := (Below.refl _ _).grown g2 hz8 fun k hk => (M8.out.own.lt k hk).1
            refine ⟨hbz, ?_⟩
            have M7 := Lib.hid (M8.out.grow hPw hbz o2)
            obtain ⟨vo2, vc2, rfl⟩ := own_slice o2
            clear o2 g2 n2 hbz M8 hcl hz8 T hT
            simp only [Act.put, List.setIfInBounds_toArray]
            refine Order.reads_any (idx := [13]) (by kernel_rfl) (Below.refl _ _) (fun _ _ _ _ _ h => Order.noPanic_put h) 0 _ _ (by decide +kernel) ?_
            simp only [Order.pick, List.getElem?_toArray, List.getElem?_cons_zero, List.getElem?_cons_succ]
            repeat (first
              | (refine Order.reads_off (by rfl) ?_
                 simp only [Act.put, List.setIfInBounds_toArray, List.set_cons_zero, List.set_cons_succ])
              | (apply Order.reads_on
                 · rfl
                 · intro x hx
                   first
                     | (go_simp; rfl)
                     | (fail
                        go_simp; rfl)
                 simp only [Act.put]))
            refine Order.reads_end ?_
            refine wpAnyH_done (by decide +kernel) ?_ _
            refine NoPanic.normal ?_
            obtain ⟨c0, c1⟩ := M7.out.box.cells
            go_wp2_with fail
            refine (HB.out p r (by omega) (by omega) hmx _).mono ?_
            rintro e w5 ⟨rfl, b5⟩
            have M5 := M7.out.on b5
            obtain ⟨f0, f1⟩ := M5.box.free
            obtain ⟨d0, d1⟩ := M5.box.cells
            have M6 := Lib.hid (M5.set hPw (behind p r))
            clear M5 b5 c0 c1 M7
            unfold plV
            go_wp2_with fail
            go_roundw
            case rel => exact ⟨pos', k', behind p r, t, _, by rw [HN2.out]; simp, M6, Lib.hid ⟨HT.out, HI.out⟩, by have := HPO.out; rw [List.length_append]; simp; omega, by have := HPO.out; omega, by have := HPO.out; omega, by have := HPO.out; omega⟩
            case measure =>
              have h1 := iterPos_of M6.out.it
              unfold setPl at h1
              have := HPO.out
              rw [h1, hpos0]; omega
      · obtain ⟨k', rfl⟩ : ∃ j, k = j + 1 := ⟨k - 1, by omega⟩
        have e1 : ((pos : Int) == (nx : Int)) = false := by
          have := HNN.out; have := HZ.out
          simp; omega
        obtain ⟨c0, c1⟩ := M1.out.box.cells
        have HI := Lib.hid (inv_next HU.out.2)
        have hn2 : pos' + Gly.pre k' (s.data.toList.drop pos') = nx := by
          have h1 := HNN.out; have h2 := HPR.out k'; have h3 := HPO.out
          omega
        have HN2 := Lib.hid hn2
        clear hn2 hk HU HM hlem
        go_wp2_with fail
        refine (HB.out p r (by omega) (by omega) hmx _).mono ?_
        rintro e w5 ⟨rfl, b5⟩
        have M5 := M1.out.on b5
        obtain ⟨f0, f1⟩ := M5.box.free
        obtain ⟨d0, d1⟩ := M5.box.cells
        have M6 := Lib.hid (M5.set hPw (behind p r))
        clear M5 b5 c0 c1 M1
        unfold plV
        go_wp2_with fail
        go_roundw
        case rel => exact ⟨pos', k', behind p r, t, acc, by rw [HN2.out], M6, Lib.hid ⟨HT.out, HI.out⟩, by have := HPO.out; omega, by have := HPO.out; omega, by have := HPO.out; omega, by have := HPO.out; omega⟩
        case measure =>
          have h1 := iterPos_of M6.out.it
          unfold setPl at h1
          have := HPO.out
          rw [h1, hpos0]; omega
    · have hnx : ∀ ty, (Instr.next (.pointer (some ⟨P + 1, 0, none⟩)) true ty).run Tryz.prog wr = _ := fun ty => Lib.run_next_end_at wr (P + 1) s pos ty HR.out.it hp
      obtain rfl := at_end HU.out.1 hp
      have he := inv_end HU.out.2
      have HA := Lib.hid (show ans (some q) = (0, p, acc) from by rw [ans_ok HL.out (by rw [he]), he])
      obtain ⟨c0, c1⟩ := HR.out.box.cells
      obtain ⟨f0, f1⟩ := HR.out.res.free
      obtain ⟨d0, d1⟩ := HR.out.res.cells
      obtain ⟨g0, g1⟩ := put_cells HR.out.res p.1 p.2
      have hPw2 : ¬ P = w.heap.size := by omega
      have HY := Lib.hid HR.out
      clear he HU HM HB HQ HR
      go_wp2_with fail
      go_region
      go_wp2_with fail
      refine bodyPost_ret (v := .tuple #[.slice vo acc.length vc, plV p, .int .i64 0]) (by simp [results, Tryz.results91, go_sem, plV, g0, g1]) rfl ⟨.slice vo acc.length vc, by rw [HA.out], ?_, ?_⟩
      · rw [HA.out]
        exact own_mono (Mem.res_set HY.out hPw p) (by omega)
      · exact (setPl_below p HY.out.below (Nat.le_refl _)).drew

theorem lex_any (s : ByteArray) (w : World) (hs : s.size ≤ 4000000) :
    Calls Tryz.prog 91 #[.string s] w (LexOut (ans (Gly.runes s.data.toList)) w) := by
  cases hq : Gly.runes s.data.toList with
  | none => exact lex_none s w hs hq
  | some q =>
    by_cases hl : 3000 < q.length
    · exact lex_full s w hs q hq hl
    · exact lex_some s w hs q hq hl
end Sg
end Go.Proofs.YtopncohhagebbaaGreatDoor

namespace Go.Proofs.YtopncohhagebbaaGreatDoor
open Go.RowKit
namespace Sg
open Tr (IsElem own_below own_slice own_open)

def TokAt (x : World) (g o : Nat) (t : Tok) : Prop := x.cell? ⟨g, o, none⟩ = some (.int .i64 t.kind) ∧ x.cell? ⟨g, o + 1, none⟩ = some (.string (txt t.text)) ∧ x.cell? ⟨g, o + 2, none⟩ = some (.int .i64 (t.at'.1 : Nat)) ∧ x.cell? ⟨g, o + 3, none⟩ = some (.int .i64 (t.at'.2 : Nat))
theorem TokAt.on {x y : World} {g o : Nat} {t : Tok} (h : TokAt x g o t) (hg : g < x.heap.size) (hb : Below x.heap.size x y) : TokAt y g o t :=
  ⟨(hb.cell (p := ⟨g, o, none⟩) hg).trans h.1, (hb.cell (p := ⟨g, o + 1, none⟩) hg).trans h.2.1, (hb.cell (p := ⟨g, o + 2, none⟩) hg).trans h.2.2.1, (hb.cell (p := ⟨g, o + 3, none⟩) hg).trans h.2.2.2⟩
theorem toksC_at : ∀ (l : List Tok) {j : Nat} (h : j < l.length), (toksC l)[j * 4]? = some (.int .i64 l[j].kind) ∧ (toksC l)[j * 4 + 1]? = some (.string (txt l[j].text)) ∧ (toksC l)[j * 4 + 2]? = some (.int .i64 (l[j].at'.1 : Nat)) ∧ (toksC l)[j * 4 + 3]? = some (.int .i64 (l[j].at'.2 : Nat))
  | r :: l, 0, _ => ⟨rfl, rfl, rfl, rfl⟩
  | r :: l, j + 1, h => by
    have ih := toksC_at l (j := j) (by simpa using h)
    have e : ∀ c, (toksC (r :: l))[(j + 1) * 4 + c]? = (toksC l)[j * 4 + c]? := fun c => by
      rw [show (j + 1) * 4 + c = (j * 4 + c) + 4 by omega]
      rfl
    have e0 := e 0
    rw [Nat.add_zero, Nat.add_zero] at e0
    exact ⟨e0.trans ih.1, (e 1).trans ih.2.1, (e 2).trans ih.2.2.1, (e 3).trans ih.2.2.2⟩
theorem elemT : Tryz.prog.underlying 152 = some (.slice (Tryz.prog.elem 152)) := by kernel_rfl
theorem sizeT : ∀ w, (sizeOf (Tryz.prog.elem 152)).run Tryz.prog w = .ok 4 w := fun w => by kernel_rfl
theorem toks_open {B : Nat} {x : World} {v : Value} {l : List Tok} (h : x.ownsRow B 189 4 v l.length (toksC l)) (hl : l ≠ []) :
    ∃ g cap, v = .slice (some ⟨g, 0, none⟩) l.length cap ∧ B ≤ g ∧ g < x.heap.size ∧ ∀ j (h : j < l.length), TokAt x g (j * 4) l[j] := by
  have hp := List.length_pos_iff.2 hl
  obtain ⟨n, hn⟩ : ∃ n, l.length = n + 1 := ⟨l.length - 1, by omega⟩
  rw [hn] at h
  obtain ⟨g, cap, rfl, hB, hg, -, hc⟩ := own_open h
  refine ⟨g, cap, by rw [hn], hB, hg, fun j hj => ?_⟩
  obtain ⟨c0, c1, c2, c3⟩ := toksC_at l hj
  exact ⟨hc _ _ c0, hc _ _ c1, hc _ _ c2, hc _ _ c3⟩

theorem dec_low {b : UInt8} {l : List UInt8} (h : b.toNat < 128) : Gly.dec (b :: l) = (b.toNat, 1) := by
  rw [Gly.dec_def, Lib.decodeN, if_pos (by simpa [Gly.byte] using h)]
  rfl
theorem runes_low : ∀ (l : List UInt8), (∀ b ∈ l, b.toNat < 128) → Gly.runes l = some (l.map UInt8.toNat)
  | [], _ => Gly.runes_nil
  | b :: l, h => by
    have hb := h b (by simp)
    have hd := dec_low (l := l) hb
    have hbad : Gly.bad (b :: l) = false := by
      rw [Gly.bad, hd]; simp; omega
    rw [Gly.runes_step (by simp) hbad, hd]
    simp only [List.drop_succ_cons, List.drop_zero]
    rw [runes_low l (fun x hx => h x (by simp [hx]))]
    rfl

end Sg
end Go.Proofs.YtopncohhagebbaaGreatDoor
