/-
  Names and ids: what glyph.Name and the document's Name, Plain and Id answer.
-/
import Derived.Test.YtldfobciojmlnaaDoorRunes
namespace Go.Proofs.YtldfobciojmlnaaDoor
open Go.RowKit
namespace Gly

def nameOk : Bool → List UInt8 → Bool
  | _, [] => true
  | first, c :: t => (letterB c.toNat || (!first && (digitB c.toNat || c.toNat == 95))) && nameOk false t
def nameB (l : List UInt8) : Bool := decide (1 ≤ l.length ∧ l.length ≤ 16) && nameOk true l

theorem nameOk_step {l : List UInt8} (h : l ≠ []) (first : Bool) : nameOk first l = ((letterB (byte l 0) || (!first && (digitB (byte l 0) || byte l 0 == 95))) && nameOk false (l.drop 1)) := by
  cases l with
  | nil => exact absurd rfl h
  | cons c t => rfl
theorem dec_low {l : List UInt8} (_h : l ≠ []) (hb : byte l 0 < 128) : dec l = (byte l 0, 1) := by rw [dec_def, Lib.decodeN, if_pos hb]
theorem dec_high {l : List UInt8} (h : l ≠ []) (hb : 128 ≤ byte l 0) : 128 ≤ (dec l).1 := by
  have h0 := byte_lt l 0; have h1 := byte_lt l 1; have h2 := byte_lt l 2; have h3 := byte_lt l 3
  rcases dec_cases l h with ⟨_, e⟩ | ⟨_, _, _, _, _, e⟩ | ⟨_, _, _, _, _, _, _, e⟩ | ⟨_, _, _, _, _, _, _, _, e⟩ | ⟨_, e⟩ <;> rw [e] <;> simp <;> omega

/-- The test at a rune is the test at its first byte; where it is met the rune is one byte. -/
theorem nameOk_rune {l : List UInt8} (h : l ≠ []) (first : Bool) : nameOk first l = ((letterB (dec l).1 || (!first && (digitB (dec l).1 || (dec l).1 == 95))) && nameOk false (l.drop (dec l).2)) := by
  rw [nameOk_step h]
  by_cases hb : byte l 0 < 128
  · rw [dec_low h hb]
  · have := dec_high h (by omega)
    have a1 : letterB (byte l 0) = false := by simp [letterB]; omega
    have a2 : digitB (byte l 0) = false := by simp [digitB]; omega
    have a3 : (byte l 0 == 95) = false := by simp; omega
    have b1 : letterB (dec l).1 = false := by simp [letterB]; omega
    have b2 : digitB (dec l).1 = false := by simp [digitB]; omega
    have b3 : ((dec l).1 == 95) = false := by simp; omega
    rw [a1, a2, a3, b1, b2, b3]
    cases first <;> rfl
end Gly
namespace Gl

theorem letter_any (r : Nat) (hr : r ≤ 1114111) (w : World) :
    Calls Tryd.prog 28 #[.int .i32 r] w fun e w' => e = .returned (.bool (Gly.letterB r)) ∧ w = w' := by
  by_cases h1 : 97 ≤ r
  · by_cases h2 : r ≤ 122
    all_goals
      go_enter Tryd.func28, Tryd.ntmps28
      go_wp2
      go_ret
      exact ⟨by simp [Gly.letterB, h1, h2]; try omega, rfl⟩
  · go_enter Tryd.func28, Tryd.ntmps28
    go_wp2
    go_ret
    exact ⟨by simp [Gly.letterB, h1], rfl⟩

theorem digit_any (r : Nat) (hr : r ≤ 1114111) (w : World) :
    Calls Tryd.prog 29 #[.int .i32 r] w fun e w' => e = .returned (.bool (Gly.digitB r)) ∧ w = w' := by
  by_cases h1 : 48 ≤ r
  · by_cases h2 : r ≤ 57
    all_goals
      go_enter Tryd.func29, Tryd.ntmps29
      go_wp2
      go_ret
      exact ⟨by simp [Gly.digitB, h1, h2]; try omega, rfl⟩
  · go_enter Tryd.func29, Tryd.ntmps29
    go_wp2
    go_ret
    exact ⟨by simp [Gly.digitB, h1], rfl⟩

set_option maxHeartbeats 2000000 in
set_option maxRecDepth 100000 in
theorem name_in (s : ByteArray) (w : World) (h1 : 1 ≤ s.size) (h2 : s.size ≤ 16) :
    Calls Tryd.prog 13 #[.string s] w fun e w' => e = .returned (.bool (Gly.nameOk true s.data.toList)) ∧ Below w.heap.size w w' := by
  have e1 : s.toList.isEmpty = false := by rw [Lib.toList_data]; cases h : s.data.toList with
    | nil => rw [Lib.size_eq, h] at h1; simp at h1
    | cons a t => rfl
  have e2 : (s.toList == []) = false := by rw [Lib.toList_data]; cases h : s.data.toList with
    | nil => rw [Lib.size_eq, h] at h1; simp at h1
    | cons a t => rfl
  go_enter Tryd.func13, Tryd.ntmps13
  go_wp2
  go_loopw [] (fun wr => ∃ (pos : Nat), wr.heap[w.heap.size]? = some (.stringIter s pos) ∧ Below w.heap.size w wr ∧ Hid (Gly.nameOk (pos == 0) (s.data.toList.drop pos) = Gly.nameOk true s.data.toList) ∧ pos ≤ s.size) (fun wr => s.size - wr.iterPos w.heap.size)
  case atStart => exact ⟨0, World.iter_heap w s 0, (Below.refl _ _).alloc (Nat.le_refl _) _, rfl, by omega⟩
  case round =>
    clear e1 e2
    obtain ⟨pos, hit, hbw, HS, hps⟩ := hrel
    have hpos0 := iterPos_of hit
    by_cases hp : pos < s.size
    · have hnx : ∀ ty, (Instr.next (.pointer (some ⟨w.heap.size, 0, none⟩)) true ty).run Tryd.prog wr = _ := fun ty => Lib.run_next_any_at wr w.heap.size s pos ty hit hp
      have hne := drop_ne hp
      have hwd := width s pos hp
      have hit2 := Lib.iterAt_heap wr w.heap.size s pos (pos + (Utf8.decode s pos).2) hit
      have hbw2 := Lib.below_iterAt hbw (k := w.heap.size) (Nat.le_refl _) s (pos + (Utf8.decode s pos).2)
      have hmx := Gly.dec_max _ hne
      have hst := Gly.nameOk_rune hne (pos == 0)
      rw [drop_next, HS.out, ← Gly.dec_at] at hst
      rw [← Gly.dec_at] at hmx
      have hle := letter_any (Utf8.decode s pos).1 hmx
      have hdi := digit_any (Utf8.decode s pos).1 hmx
      obtain ⟨W1, hW1⟩ : ∃ W1, W1 = wr.iterAt w.heap.size s (pos + (Utf8.decode s pos).2) := ⟨_, rfl⟩
      rw [← hW1] at hnx hit2 hbw2
      have hpz : (pos + (Utf8.decode s pos).2 == 0) = false := by simp; omega
      have HZ := Lib.hid hpz
      clear hW1 hit hbw hpz hne
      cases hl : Gly.letterB (Utf8.decode s pos).1 with
      | true =>
        rw [hl] at hst hle
        have HL := Lib.hid hle
        have HN := Lib.hid hst
        clear hl hst hle hdi
        go_wp2_with (go_at_call 28; refine (HL.out _).mono ?_; rintro e w' ⟨rfl, rfl⟩)
        go_roundw
        case rel => exact ⟨_, hit2, hbw2, Lib.hid (by rw [HZ.out, HN.out]; simp), hwd.2⟩
        case measure => rw [iterPos_of hit2, hpos0]; omega
      | false =>
        rw [hl] at hst hle
        have HL := Lib.hid hle
        by_cases h0 : pos = 0
        · subst h0
          have HN := Lib.hid hst
          clear hl hst hle hdi
          go_wp2_with (go_at_call 28; refine (HL.out _).mono ?_; rintro e w' ⟨rfl, rfl⟩)
          go_ret
          exact ⟨by rw [HN.out]; rfl, hbw2⟩
        · have p0 : (pos == 0) = false := by simp; omega
          have p1 : ((pos : Int) == 0) = false := by simp; omega
          rw [p0] at hst
          clear p0
          cases hd : Gly.digitB (Utf8.decode s pos).1 with
          | true =>
            rw [hd] at hst hdi
            have HD := Lib.hid hdi
            have HN := Lib.hid hst
            clear hl hst hle hdi hd
            go_wp2_with (first
              | (go_at_call 28; refine (HL.out _).mono ?_; rintro e w' ⟨rfl, rfl⟩)
              | (go_at_call 29; refine (HD.out _).mono ?_; rintro e w' ⟨rfl, rfl⟩))
            go_roundw
            case rel => exact ⟨_, hit2, hbw2, Lib.hid (by rw [HZ.out, HN.out]; simp), hwd.2⟩
            case measure => rw [iterPos_of hit2, hpos0]; omega
          | false =>
            rw [hd] at hst hdi
            have HD := Lib.hid hdi
            by_cases h95 : (Utf8.decode s pos).1 = 95
            · rw [h95] at hst
              have HN := Lib.hid hst
              have hn1 : (((Utf8.decode s pos).1 : Int) != 95) = false := by rw [h95]; rfl
              clear hl hst hle hdi hd h95
              go_wp2_with (first
                | (go_at_call 28; refine (HL.out _).mono ?_; rintro e w' ⟨rfl, rfl⟩)
                | (go_at_call 29; refine (HD.out _).mono ?_; rintro e w' ⟨rfl, rfl⟩))
              go_roundw
              case rel => exact ⟨_, hit2, hbw2, Lib.hid (by rw [HZ.out, HN.out]; simp), hwd.2⟩
              case measure => rw [iterPos_of hit2, hpos0]; omega
            · have hn0 : ((Utf8.decode s pos).1 == 95) = false := by simp [h95]
              rw [hn0] at hst
              have HN := Lib.hid hst
              have hn1 : (((Utf8.decode s pos).1 : Int) != 95) = true := by rw [bne_iff_ne]; omega
              clear hl hst hle hdi hd h95 hn0
              go_wp2_with (first
                | (go_at_call 28; refine (HL.out _).mono ?_; rintro e w' ⟨rfl, rfl⟩)
                | (go_at_call 29; refine (HD.out _).mono ?_; rintro e w' ⟨rfl, rfl⟩))
              go_ret
              exact ⟨by rw [HN.out]; rfl, hbw2⟩
    · have hnx : ∀ ty, (Instr.next (.pointer (some ⟨w.heap.size, 0, none⟩)) true ty).run Tryd.prog wr = _ := fun ty => Lib.run_next_end_at wr w.heap.size s pos ty hit hp
      have hc := HS.out
      rw [drop_end hp, Gly.nameOk] at hc
      have HC := Lib.hid hc
      clear hc
      go_wp2
      go_ret
      exact ⟨by rw [← HC.out]; rfl, hbw⟩

set_option maxHeartbeats 1000000 in
set_option maxRecDepth 100000 in
theorem name_any (s : ByteArray) (w : World) (hs : s.size ≤ 1000000) :
    Calls Tryd.prog 13 #[.string s] w fun e w' => e = .returned (.bool (Gly.nameB s.data.toList)) ∧ Below w.heap.size w w' := by
  by_cases h0 : 1 ≤ s.size ∧ s.size ≤ 16
  · have h := name_in s w h0.1 h0.2
    rw [Gly.nameB, ← Lib.size_eq, decide_eq_true h0, Bool.true_and]
    exact h
  · rw [Gly.nameB, ← Lib.size_eq, decide_eq_false h0, Bool.false_and]
    by_cases h1 : s.size = 0
    · have e : s = ⟨#[]⟩ := by
        cases s with
        | mk d =>
          have : d.size = 0 := h1
          rw [Array.eq_empty_of_size_eq_zero this]
      subst e
      clear h0 h1 hs
      go_enter Tryd.func13, Tryd.ntmps13
      go_wp2
      go_ret
      exact ⟨rfl, Below.refl _ _⟩
    · have h2 : 16 < s.size := by omega
      have e1 : s.toList.isEmpty = false := by rw [Lib.toList_data]; cases h : s.data.toList with
        | nil => rw [Lib.size_eq, h] at h2; simp at h2
        | cons a t => rfl
      have e2 : (s.toList == []) = false := by rw [Lib.toList_data]; cases h : s.data.toList with
        | nil => rw [Lib.size_eq, h] at h2; simp at h2
        | cons a t => rfl
      clear h0
      go_enter Tryd.func13, Tryd.ntmps13
      go_wp2
      go_ret
      exact ⟨rfl, Below.refl _ _⟩
end Gl
namespace Gly

theorem idFrom_runes : ∀ (k : Nat) (l : List UInt8), l.length ≤ k → ∀ n, n ≤ 24 → idFrom n l = match runes l with | some t => decide (0 < n + t.length ∧ n + t.length ≤ 24) && t.all plainB | none => false
  | k, l, hk, n, hn => by
    by_cases h : l = []
    · subst h
      rw [idFrom_nil, runes_nil]
      simp
      omega
    · have hl := drop_lt h
      obtain ⟨k, rfl⟩ : ∃ j, k = j + 1 := ⟨k - 1, by omega⟩
      rw [idFrom_step n h]
      cases hb : bad l with
      | true =>
        rw [runes_bad h hb]
        simp
      | false =>
        rw [runes_step h hb]
        by_cases h24 : 24 < n + 1
        · rw [if_pos h24]
          cases runes (l.drop (dec l).2) with
          | none => rfl
          | some t => simp; omega
        · rw [if_neg h24]
          have ih := idFrom_runes k (l.drop (dec l).2) (by omega) (n + 1) (by omega)
          cases hp : plainB (dec l).1 with
          | true =>
            simp only [Bool.not_false, Bool.and_self, if_true]
            rw [ih]
            cases runes (l.drop (dec l).2) with
            | none => rfl
            | some t =>
              simp only [Option.map_some, List.length_cons, List.all_cons, hp, Bool.true_and]
              rw [show decide (0 < n + 1 + t.length ∧ n + 1 + t.length ≤ 24) = decide (0 < n + (t.length + 1) ∧ n + (t.length + 1) ≤ 24) from decide_eq_decide.2 ⟨fun _ => by omega, fun _ => by omega⟩]
          | false =>
            cases runes (l.drop (dec l).2) with
            | none => rfl
            | some t => simp [hp]
theorem idB_runes (l : List UInt8) : idB l = match runes l with | some t => decide (1 ≤ t.length ∧ t.length ≤ 24) && t.all plainB | none => false := by
  rw [idB, idFrom_runes l.length l (Nat.le_refl _) 0 (by omega)]
  cases runes l with
  | none => rfl
  | some t =>
    simp only [Nat.zero_add]
    rfl
end Gly
namespace Ref

set_option maxHeartbeats 2000000 in
set_option maxRecDepth 100000 in
theorem name_any (s : ByteArray) (w : World) (hs : s.size ≤ 1000000) :
    Calls Tryd.prog 14 #[.string s] w fun e w' => e = .returned (.bool (Gly.nameB s.data.toList)) ∧ w = w' := by
  go_enter Tryd.func14, Tryd.ntmps14
  go_wp2
  go_loop [3] (fun i => ∃ (k : Nat), i = .int .i64 k ∧ Hid (Gly.nameOk (k == 0) (s.data.toList.drop k) = Gly.nameOk true s.data.toList) ∧ k ≤ s.size) (fun i => s.size - (intOf i).toNat)
  case atStart => exact ⟨0, rfl, rfl, by omega⟩
  case round =>
    obtain ⟨k, rfl, HS, hk⟩ := hrel
    by_cases hp : k < s.size
    · have hne := Gl.drop_ne hp
      have hst := Gly.nameOk_step hne (k == 0)
      rw [byte_at0 hp, List.drop_drop, HS.out] at hst
      have hby := (s[k]).toNat_lt
      have hpz : (k + 1 == 0) = false := by simp
      have HZ := Lib.hid hpz
      clear hpz hne
      by_cases hl : 97 ≤ (s[k]).toNat ∧ (s[k]).toNat ≤ 122
      · rw [show Gly.letterB (s[k]).toNat = true by simp [Gly.letterB]; exact hl, Bool.true_or, Bool.true_and] at hst
        have HN := Lib.hid hst
        obtain ⟨l1, l2⟩ := hl
        clear hst
        go_wp2
        go_round
        case rel => exact ⟨k + 1, by go_num, Lib.hid (by rw [HZ.out, HN.out]), by omega⟩
        case measure => simp [intOf]; omega
      · rw [show Gly.letterB (s[k]).toNat = false by simp [Gly.letterB]; omega, Bool.false_or] at hst
        by_cases h0 : k = 0
        · subst h0
          have HN := Lib.hid hst
          clear hst
          rcases (show (s[0]).toNat < 97 ∨ 122 < (s[0]).toNat by omega) with h1 | h1
          all_goals
            clear hl
            go_wp2
            go_ret
            exact ⟨by rw [Gly.nameB, HN.out]; simp, rfl⟩
        · have p0 : (k == 0) = false := by simp; omega
          have p1 : ((k : Int) == 0) = false := by simp; omega
          rw [p0] at hst
          clear p0
          by_cases hd : 48 ≤ (s[k]).toNat ∧ (s[k]).toNat ≤ 57
          · rw [show Gly.digitB (s[k]).toNat = true by simp [Gly.digitB]; exact hd] at hst
            have HN := Lib.hid hst
            obtain ⟨d1, d2⟩ := hd
            clear hst hl
            go_wp2
            go_round
            case rel => exact ⟨k + 1, by go_num, Lib.hid (by rw [HZ.out, HN.out]; simp), by omega⟩
            case measure => simp [intOf]; omega
          · rw [show Gly.digitB (s[k]).toNat = false by simp [Gly.digitB]; omega, Bool.false_or] at hst
            by_cases h95 : (s[k]).toNat = 95
            · rw [h95] at hst
              have HN := Lib.hid hst
              have hn1 : (((s[k]).toNat : Int) != 95) = false := by rw [h95]; rfl
              have b1 : 58 ≤ (s[k]).toNat := by omega
              have b2 : (s[k]).toNat ≤ 96 := by omega
              clear hst hl hd h95
              go_wp2
              go_round
              case rel => exact ⟨k + 1, by go_num, Lib.hid (by rw [HZ.out, HN.out]; simp), by omega⟩
              case measure => simp [intOf]; omega
            · rw [show ((s[k]).toNat == 95) = false by simp [h95]] at hst
              have HN := Lib.hid hst
              have hn1 : (((s[k]).toNat : Int) != 95) = true := by rw [bne_iff_ne]; omega
              clear hst
              rcases (show (s[k]).toNat < 48 ∨ (57 < (s[k]).toNat ∧ (s[k]).toNat < 97) ∨ 122 < (s[k]).toNat by omega) with h1 | ⟨h1, h2⟩ | h1
              all_goals
                clear hl hd h95
                go_wp2
                go_ret
                exact ⟨by rw [Gly.nameB, HN.out]; simp, rfl⟩
    · have hc := HS.out
      rw [Gl.drop_end hp, Gly.nameOk] at hc
      have hke : k = s.size := by omega
      have hfin : Gly.nameB s.data.toList = decide (1 ≤ s.size ∧ s.size ≤ 16) := by rw [Gly.nameB, ← hc, Bool.and_true, ← Lib.size_eq]
      have HF := Lib.hid hfin
      clear hc hfin hke
      by_cases g1 : 1 ≤ s.size
      · by_cases g2 : s.size ≤ 16
        · go_wp2
          go_ret
          exact ⟨by rw [HF.out]; simp [g1]; omega, rfl⟩
        · go_wp2
          go_ret
          exact ⟨by rw [HF.out]; simp [g1]; omega, rfl⟩
      · go_wp2
        go_ret
        exact ⟨by rw [HF.out]; simp [g1], rfl⟩
end Ref
end Go.Proofs.YtldfobciojmlnaaDoor
