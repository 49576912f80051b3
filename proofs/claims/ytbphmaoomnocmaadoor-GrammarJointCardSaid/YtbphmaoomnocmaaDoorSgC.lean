/-
  Layer 6 (sigil): package sigil's word and piece.
-/
import Derived.Test.YtbphmaoomnocmaaDoorSgB
namespace Go.Proofs.YtbphmaoomnocmaaDoor
open Go.RowKit
namespace Sg
open Gl (drop_ne width drop_next drop_end)

/-- Runes below 128 are bytes. -/
theorem low_bytes : ∀ (m : Nat) (l : List UInt8) (q : List Nat), Gly.runes l = some q → m ≤ q.length → (∀ r ∈ q.take m, r < 128) → Gly.pre m l = m ∧ l.take m = (q.take m).map Nat.toUInt8
  | 0, l, q, _, _, _ => by simp [Gly.pre]
  | m + 1, l, q, h, hm, hlow => by
    cases q with
    | nil => simp at hm
    | cons r t =>
      have hl := Gly.runes_ne h (by simp)
      have hb := Gly.runes_good h hl
      rw [Gly.runes_step hl hb] at h
      cases hu : Gly.runes (l.drop (Gly.dec l).2) with
      | none => rw [hu] at h; cases h
      | some u =>
        rw [hu] at h
        obtain ⟨rfl, rfl⟩ : (Gly.dec l).1 = r ∧ u = t := List.cons.inj (Option.some.inj h)
        have hr : (Gly.dec l).1 < 128 := hlow _ (by simp)
        have hd : Gly.dec l = (Gly.byte l 0, 1) := by
          have h0 := Gly.byte_lt l 0; have h1 := Gly.byte_lt l 1; have h2 := Gly.byte_lt l 2; have h3 := Gly.byte_lt l 3
          rcases Gly.dec_cases l hl with ⟨_, e⟩ | ⟨_, _, _, _, _, e⟩ | ⟨_, _, _, _, _, _, _, e⟩ | ⟨_, _, _, _, _, _, _, _, e⟩ | ⟨_, e⟩
          · exact e
          · rw [e] at hr; simp only at hr; omega
          · rw [e] at hr; simp only at hr; omega
          · rw [e] at hr; simp only at hr; omega
          · rw [e] at hr; simp at hr
        have h2 := low_bytes m _ u hu (by simpa using hm) (fun x hx => hlow x (by rw [List.take_succ_cons]; exact List.mem_cons_of_mem _ hx))
        rw [hd] at h2
        simp only at h2
        refine ⟨by rw [Gly.pre_step hl, hd]; simp only; omega, ?_⟩
        rw [List.take_succ_cons, List.map_cons, ← h2.2, hd]
        conv => lhs; rw [Gly.cons_byte hl]
        rw [List.take_succ_cons]
        congr 1
        simp [Gly.byte]

theorem low_inj : ∀ (a b : List Nat), (∀ r ∈ a, r < 128) → (∀ r ∈ b, r < 128) → a.map Nat.toUInt8 = b.map Nat.toUInt8 → a = b
  | [], [], _, _, _ => rfl
  | [], _ :: _, _, _, h => by simp at h
  | _ :: _, [], _, _, h => by simp at h
  | x :: a, y :: b, ha, hb, h => by
    rw [List.map_cons, List.map_cons] at h
    obtain ⟨h1, h2⟩ := List.cons.inj h
    have hx := ha x (by simp); have hy := hb y (by simp)
    have := congrArg UInt8.toNat h1
    simp at this
    rw [Nat.mod_eq_of_lt (by omega), Nat.mod_eq_of_lt (by omega)] at this
    rw [this, low_inj a b (fun r hr => ha r (by simp [hr])) (fun r hr => hb r (by simp [hr])) h2]

/-- The kind of a word, told by its bytes. -/
def kindB (x : ByteArray) : Int := if x.toList == [116, 121, 112, 101] then 2 else if x.toList == [114, 101, 108] then 3 else if x.toList == [116, 104, 105, 115] then 4 else 1
theorem kindB_low {x : ByteArray} {t : List Nat} (h : x.data.toList = t.map Nat.toUInt8) (ht : ∀ r ∈ t, r < 128) : kindB x = kindOf t := by
  have key : ∀ (k : List Nat), (∀ r ∈ k, r < 128) → ((x.toList == k.map Nat.toUInt8) = true ↔ t = k) := fun k hk => by
    rw [Lib.toList_data, h, beq_iff_eq]
    constructor
    · exact low_inj _ _ ht hk
    · rintro rfl; rfl
  have k1 : (x.toList == [116, 121, 112, 101]) = true ↔ t = [116, 121, 112, 101] := key [116, 121, 112, 101] (by decide)
  have k2 : (x.toList == [114, 101, 108]) = true ↔ t = [114, 101, 108] := key [114, 101, 108] (by decide)
  have k3 : (x.toList == [116, 104, 105, 115]) = true ↔ t = [116, 104, 105, 115] := key [116, 104, 105, 115] (by decide)
  unfold kindB kindOf
  simp only [k1, k2, k3]

set_option maxHeartbeats 2000000 in
set_option maxRecDepth 100000 in
theorem word_any (s : ByteArray) (q : List Nat) (hq : Gly.runes s.data.toList = some q) (w : World) (hs : s.size ≤ 4000000) :
    Calls Tryd.prog 89 #[.string s] w fun e w' => e = .returned (.tuple #[.int .i64 (word q).1, .int .i64 (Gly.pre (word q).2 s.data.toList : Nat)]) ∧ Below w.heap.size w w' := by
  have hsp := fun W => span_any asks_inWord s q hq W hs
  obtain ⟨hp, ht⟩ := low_bytes _ _ q hq (run_le inWord q) (fun r hr => inWord_low (run_all r hr))
  have hle : Gly.pre (run inWord q) s.data.toList ≤ s.size := by have := Gly.pre_le (run inWord q) s.data.toList; rw [← Lib.size_eq] at this; exact this
  rw [hp] at hsp hle
  by_cases hw : 16 < run inWord q
  · have hv : (word q).1 = 0 ∧ (word q).2 = 0 := by rw [word, if_pos hw]; exact ⟨rfl, rfl⟩
    rw [hv.1, hv.2]
    have HC := Lib.hid hsp
    clear hp ht hsp hv
    generalize run inWord q = m at *
    go_enter Tryd.func89, Tryd.ntmps89
    go_wp2_with (go_at_call 86; refine (HC.out _).mono ?_; rintro e w' ⟨rfl, hb⟩)
    go_ret2
    exact ⟨rfl, hb⟩
  · have hv : (word q).1 = kindOf (q.take (run inWord q)) ∧ (word q).2 = run inWord q := by rw [word, if_neg hw]; exact ⟨rfl, rfl⟩
    rw [hv.1, hv.2, hp]
    have hx : (s.extract 0 (run inWord q)).data.toList = (q.take (run inWord q)).map Nat.toUInt8 := by rw [← ht, Lib.extract_data]; simp
    rw [← kindB_low hx (fun r hr => inWord_low (run_all r hr))]
    have HC := Lib.hid hsp
    clear hp ht hsp hv hx
    have hle' : run inWord q ≤ 16 := by omega
    generalize run inWord q = m at *
    generalize hxx : s.extract 0 m = x
    have hsl : ∀ W, (Instr.slice 9 (.string s) none (some (.int .i64 (m : Nat))) none).run Tryd.prog W = .ok (.string x) W := fun W => by
      rw [← hxx]
      go_simp
      try rfl
    clear hxx
    go_enter Tryd.func89, Tryd.ntmps89
    go_wp2_with (go_at_call 86; refine (HC.out _).mono ?_; rintro e w' ⟨rfl, hb⟩)
    all_goals
      go_ret2
      refine ⟨?_, hb⟩
      first
        | (have hk : kindB x = 2 := by simp [kindB, *]
           rw [hk]; rfl)
        | (have hk : kindB x = 3 := by simp [kindB, *]
           rw [hk]; rfl)
        | (have hk : kindB x = 4 := by simp [kindB, *]
           rw [hk]; rfl)
        | (have hk : kindB x = 1 := by simp [kindB, *]
           rw [hk]; rfl)

set_option maxHeartbeats 4000000 in
set_option maxRecDepth 100000 in
theorem piece_any (s : ByteArray) (r : Nat) (t : List Nat) (hq : Gly.runes s.data.toList = some (r :: t)) (hr : r ≤ 1114111) (w : World) (hs : s.size ≤ 4000000) :
    Calls Tryd.prog 62 #[.string s, .int .i32 r] w fun e w' => e = .returned (.tuple #[.int .i64 (piece (r :: t)).1, .int .i64 (Gly.pre (piece (r :: t)).2 s.data.toList : Nat)]) ∧ Below w.heap.size w w' := by
  have HSE := Lib.hid (fun W => second_any s r t hq W hs)
  have hbl := fun W => blank_any r hr W
  have hle := fun W => letter_any r hr W
  have hsi := fun W => sign_any r hr W
  have hlow : Gly.pre 0 s.data.toList = 0 ∧ ((piece (r :: t)).1 ≠ -1 → Gly.pre (piece (r :: t)).2 s.data.toList = (piece (r :: t)).2) :=
    ⟨rfl, fun h => (low_bytes _ _ _ hq (piece_le _) (piece_low h)).1⟩
  have hc := piece_cases r t
  have hhd : ∀ x : Nat, t.headD 0 = x → x ≠ 0 → ∃ u, t = x :: u := fun x h hx => headD_ne h hx
  generalize hn : t.headD 0 = n at *
  have HN := Lib.hid hn
  clear hn hhd
  rcases hc with ⟨h1, e⟩ | ⟨h1, h2, h3, e⟩ | ⟨h1, h2, h3, h4, h5, e⟩ | ⟨h1, h2, h3, h4, h5, e⟩ | ⟨h1, h2, h3, h4, e⟩ | ⟨h1, h2, h3, h4, e⟩ | ⟨h1, h2, h3, h4, e⟩
  · have HSP := Lib.hid (fun W => span_any asks_blank s (r :: t) hq W hs)
    rw [h1] at hbl
    rw [e]
    have HBL := Lib.hid hbl
    clear e h1 hbl hle hsi hlow hq HN
    generalize Gly.pre (run blank (r :: t)) s.data.toList = m at *
    go_enter Tryd.func62, Tryd.ntmps62
    go_wp2_with (first
      | (go_at_call 84; refine (HSE.out _).mono ?_; rintro e w1 ⟨rfl, hb1⟩)
      | (go_at_call 85; refine (HBL.out _).mono ?_; rintro e w' ⟨rfl, rfl⟩)
      | (go_at_call 86; refine (HSP.out _).mono ?_; rintro e w2 ⟨rfl, hb2⟩))
    go_ret2
    exact ⟨rfl, hb1.trans (hb2.mono hb1.size)⟩
  · have HSP := Lib.hid (fun W => span_any asks_inLine s (r :: t) hq W hs)
    rw [h1] at hbl
    rw [e]
    have HBL := Lib.hid hbl
    clear e h1 hbl hle hsi hlow hq HN
    generalize Gly.pre (run inLine (r :: t)) s.data.toList = m at *
    subst h2 h3
    go_enter Tryd.func62, Tryd.ntmps62
    go_wp2_with (first
      | (go_at_call 84; refine (HSE.out _).mono ?_; rintro e w1 ⟨rfl, hb1⟩)
      | (go_at_call 85; refine (HBL.out _).mono ?_; rintro e w' ⟨rfl, rfl⟩)
      | (go_at_call 86; refine (HSP.out _).mono ?_; rintro e w2 ⟨rfl, hb2⟩))
    go_ret2
    exact ⟨rfl, hb1.trans (hb2.mono hb1.size)⟩
  · have hwo : piece (r :: t) = word (r :: t) := by rw [e, word, if_neg (by omega)]
    have HW := Lib.hid (fun W => word_any s (r :: t) hq W hs)
    rw [h1] at hbl
    rw [h2] at hle
    rw [hwo]
    have HBL := Lib.hid hbl
    have HLE := Lib.hid hle
    have b1 : ((r : Int) == 47) = false := by simp; omega
    clear e h1 h2 h5 hbl hle hsi hlow hq HN hwo
    generalize Gly.pre (word (r :: t)).2 s.data.toList = m at *
    generalize (word (r :: t)).1 = k at *
    go_enter Tryd.func62, Tryd.ntmps62
    go_wp2_with (first
      | (go_at_call 84; refine (HSE.out _).mono ?_; rintro e w1 ⟨rfl, hb1⟩)
      | (go_at_call 85; refine (HBL.out _).mono ?_; rintro e w' ⟨rfl, rfl⟩)
      | (go_at_call 88; refine (HLE.out _).mono ?_; rintro e w' ⟨rfl, rfl⟩)
      | (go_at_call 89; refine (HW.out _).mono ?_; rintro e w2 ⟨rfl, hb2⟩))
    go_ret2
    exact ⟨rfl, hb1.trans (hb2.mono hb1.size)⟩
  · have hwo : piece (r :: t) = word (r :: t) := by rw [e, word, if_pos (by omega)]
    have HW := Lib.hid (fun W => word_any s (r :: t) hq W hs)
    rw [h1] at hbl
    rw [h2] at hle
    rw [hwo]
    have HBL := Lib.hid hbl
    have HLE := Lib.hid hle
    have b1 : ((r : Int) == 47) = false := by simp; omega
    clear e h1 h2 h5 hbl hle hsi hlow hq HN hwo
    generalize Gly.pre (word (r :: t)).2 s.data.toList = m at *
    generalize (word (r :: t)).1 = k at *
    go_enter Tryd.func62, Tryd.ntmps62
    go_wp2_with (first
      | (go_at_call 84; refine (HSE.out _).mono ?_; rintro e w1 ⟨rfl, hb1⟩)
      | (go_at_call 85; refine (HBL.out _).mono ?_; rintro e w' ⟨rfl, rfl⟩)
      | (go_at_call 88; refine (HLE.out _).mono ?_; rintro e w' ⟨rfl, rfl⟩)
      | (go_at_call 89; refine (HW.out _).mono ?_; rintro e w2 ⟨rfl, hb2⟩))
    go_ret2
    exact ⟨rfl, hb1.trans (hb2.mono hb1.size)⟩
  · rw [e] at hlow
    rw [e, hlow.2 (by decide)]
    rw [h1] at hbl
    rw [h2] at hle
    have HBL := Lib.hid hbl
    have HLE := Lib.hid hle
    clear e h1 h2 hbl hle hsi hlow hq HN
    subst h3 h4
    go_enter Tryd.func62, Tryd.ntmps62
    go_wp2_with (first
      | (go_at_call 84; refine (HSE.out _).mono ?_; rintro e w1 ⟨rfl, hb1⟩)
      | (go_at_call 85; refine (HBL.out _).mono ?_; rintro e w' ⟨rfl, rfl⟩)
      | (go_at_call 88; refine (HLE.out _).mono ?_; rintro e w' ⟨rfl, rfl⟩))
    go_ret2
    exact ⟨rfl, hb1⟩
  · have hsl := sign_low h3
    rw [e] at hlow
    rw [e, hlow.2 (by simp only; omega)]
    rw [h1] at hbl
    rw [h2] at hle
    rw [h3] at hsi
    have HBL := Lib.hid hbl
    have HLE := Lib.hid hle
    have HSI := Lib.hid hsi
    have b1 : ((r : Int) == 47) = false := by have := hsl.2.2.2.1; simp; omega
    clear e h1 h2 h3 hbl hle hsi hlow hq HN hsl
    by_cases h45 : r = 45
    · subst h45
      have b2 : ((n : Int) == 62) = false := by simp; omega
      clear b1 h4
      go_enter Tryd.func62, Tryd.ntmps62
      go_wp2_with (first
        | (go_at_call 84; refine (HSE.out _).mono ?_; rintro e w1 ⟨rfl, hb1⟩)
        | (go_at_call 85; refine (HBL.out _).mono ?_; rintro e w' ⟨rfl, rfl⟩)
        | (go_at_call 88; refine (HLE.out _).mono ?_; rintro e w' ⟨rfl, rfl⟩)
        | (go_at_call 90; refine (HSI.out _).mono ?_; rintro e w2 ⟨rfl, hb2⟩))
      go_ret2
      exact ⟨rfl, hb1.trans (hb2.mono hb1.size)⟩
    · have b2 : ((r : Int) == 45) = false := by simp; omega
      clear h4 h45
      go_enter Tryd.func62, Tryd.ntmps62
      go_wp2_with (first
        | (go_at_call 84; refine (HSE.out _).mono ?_; rintro e w1 ⟨rfl, hb1⟩)
        | (go_at_call 85; refine (HBL.out _).mono ?_; rintro e w' ⟨rfl, rfl⟩)
        | (go_at_call 88; refine (HLE.out _).mono ?_; rintro e w' ⟨rfl, rfl⟩)
        | (go_at_call 90; refine (HSI.out _).mono ?_; rintro e w2 ⟨rfl, hb2⟩))
      go_ret2
      exact ⟨rfl, hb1.trans (hb2.mono hb1.size)⟩
  · rw [e, hlow.1]
    rw [h1] at hbl
    rw [h2] at hle
    rw [h3] at hsi
    have HBL := Lib.hid hbl
    have HLE := Lib.hid hle
    have HSI := Lib.hid hsi
    have b2 : ((r : Int) == 45) = false := by
      have : r ≠ 45 := by rintro rfl; exact absurd h3 (by decide)
      simp; omega
    clear e h1 h2 h3 hbl hle hsi hlow hq HN
    by_cases h47 : r = 47
    · subst h47
      have b1 : ((n : Int) == 47) = false := by simp; omega
      clear b2 h4
      go_enter Tryd.func62, Tryd.ntmps62
      go_wp2_with (first
        | (go_at_call 84; refine (HSE.out _).mono ?_; rintro e w1 ⟨rfl, hb1⟩)
        | (go_at_call 85; refine (HBL.out _).mono ?_; rintro e w' ⟨rfl, rfl⟩)
        | (go_at_call 88; refine (HLE.out _).mono ?_; rintro e w' ⟨rfl, rfl⟩)
        | (go_at_call 90; refine (HSI.out _).mono ?_; rintro e w2 ⟨rfl, hb2⟩))
      go_ret2
      exact ⟨rfl, hb1.trans (hb2.mono hb1.size)⟩
    · have b1 : ((r : Int) == 47) = false := by simp; omega
      clear h4 h47
      go_enter Tryd.func62, Tryd.ntmps62
      go_wp2_with (first
        | (go_at_call 84; refine (HSE.out _).mono ?_; rintro e w1 ⟨rfl, hb1⟩)
        | (go_at_call 85; refine (HBL.out _).mono ?_; rintro e w' ⟨rfl, rfl⟩)
        | (go_at_call 88; refine (HLE.out _).mono ?_; rintro e w' ⟨rfl, rfl⟩)
        | (go_at_call 90; refine (HSI.out _).mono ?_; rintro e w2 ⟨rfl, hb2⟩))
      go_ret2
      exact ⟨rfl, hb1.trans (hb2.mono hb1.size)⟩
end Sg
end Go.Proofs.YtbphmaoomnocmaaDoor
