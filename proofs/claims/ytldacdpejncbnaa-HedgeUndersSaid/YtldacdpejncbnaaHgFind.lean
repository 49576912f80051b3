/-
  Layer 15: Compare; a key is found in a tree; how many keys are ahead of one; the first entry.
-/
import Derived.Test.YtldacdpejncbnaaHgBal
import Derived.Deep.LoopGhost
namespace Go.Proofs.Ytldacdpejncbnaa
open Go.RowKit
namespace Hg
open Knot (Turns NewRow)

theorem compare_any (a b : ByteArray) (w : World) : Calls Try.prog 36 #[.string a, .string b] w fun e x => e = .returned (.int .i64 (cmp a b)) ∧ x = w := by
  have H := Lib.hid (fun W => Try.strings_Compare a b W)
  go_enter Try.func36, Try.ntmps36
  go_wp2_with (go_at_call 44; refine (H.out _).mono ?_; rintro e w1 ⟨rfl, rfl⟩)
  go_ret
  exact ⟨rfl, rfl⟩

set_option maxHeartbeats 4000000 in
set_option maxRecDepth 100000 in
theorem find_any (q : ByteArray) (t : T) (w : World) (h : IsT w t) :
    Calls Try.prog 25 #[.pointer (loc t), .string q] w fun e x => e = .returned (.pointer ((T.find q t).map fun p => ⟨p.1, 0, none⟩)) ∧ x = w := by
  have H := Lib.hid h
  clear h
  go_enter Try.func25, Try.ntmps25
  go_wp2_with fail
  go_loopg [0] t.size (fun k v wr => ∃ s, v = .pointer (loc s) ∧ wr = w ∧ s.size = k ∧ Hid (IsT w s ∧ T.find q s = T.find q t))
  case atStart => exact ⟨t, rfl, rfl, rfl, H.out, rfl⟩
  case round =>
    obtain ⟨s, rfl, rfl, rfl, HS⟩ := hrel
    cases s with
    | nil =>
      rw [loc]
      go_wp2_with fail
      go_ret
      rw [← HS.out.2]
      exact ⟨rfl, rfl⟩
    | bin b l k a r =>
      obtain ⟨c0, c1, c2, c3, c4⟩ := HS.out.1.1.cells
      have HC := Lib.hid (compare_any q k wr)
      obtain ⟨d, hd⟩ : ∃ d, d = cmp q k := ⟨_, rfl⟩
      rw [← hd] at HC
      rw [show loc (.bin b l k a r) = some ⟨b, 0, none⟩ from rfl]
      by_cases h1 : d < 0
      · have HN := Lib.hid (And.intro HS.out.1.2.1 (show T.find q l = T.find q t from by rw [← HS.out.2, T.find, if_pos (by omega)]))
        clear hd HS
        go_wp2_with (go_at_call 36; refine HC.out.mono ?_; rintro e x ⟨rfl, rfl⟩)
        go_roundg l.size
        case rel => exact ⟨l, rfl, rfl, rfl, HN⟩
        case measure => simp only [T.size]; omega
      · by_cases h2 : 0 < d
        · have HN := Lib.hid (And.intro HS.out.1.2.2 (show T.find q r = T.find q t from by rw [← HS.out.2, T.find, if_neg (by omega), if_pos (by omega)]))
          clear hd HS
          go_wp2_with (go_at_call 36; refine HC.out.mono ?_; rintro e x ⟨rfl, rfl⟩)
          go_roundg r.size
          case rel => exact ⟨r, rfl, rfl, rfl, HN⟩
          case measure => simp only [T.size]; omega
        · have HN := Lib.hid (show T.find q t = some (b, a) from by rw [← HS.out.2, T.find, if_neg (by omega), if_neg (by omega)])
          clear hd HS
          go_wp2_with (go_at_call 36; refine HC.out.mono ?_; rintro e x ⟨rfl, rfl⟩)
          go_ret
          rw [HN.out]
          exact ⟨rfl, rfl⟩
set_option maxHeartbeats 4000000 in
set_option maxRecDepth 100000 in
theorem rank_any (q : ByteArray) (t : T) (w : World) (h : IsT w t) (hr : Rises t.ents) (hs : t.size ≤ 80000) :
    Calls Try.prog 32 #[.pointer (loc t), .string q] w fun e x => e = .returned (.int .i64 (rank t.ents q : Nat)) ∧ x = w := by
  have H := Lib.hid (And.intro h hr)
  have hrk : rank t.ents q ≤ t.size := by rw [rank, below, ← T.ents_len]; exact List.length_filter_le ..
  have HB := Lib.hid (And.intro hs hrk)
  clear h hr hs hrk
  go_enter Try.func32, Try.ntmps32
  go_wp2_with fail
  go_loopg [0, 5] t.size (fun k v u wr => ∃ (s : T) (n : Nat), v = .pointer (loc s) ∧ u = .int .i64 (n : Int) ∧ s.size = k ∧ wr = w ∧ Hid (IsT w s ∧ Rises s.ents ∧ n + rank s.ents q = rank t.ents q ∧ s.size ≤ t.size))
  case atStart => exact ⟨t, 0, rfl, rfl, rfl, rfl, H.out.1, H.out.2, by omega, Nat.le_refl _⟩
  case round =>
    obtain ⟨s, n, rfl, rfl, rfl, rfl, HS⟩ := hrel
    cases s with
    | nil =>
      rw [loc]
      have HE := Lib.hid (show n = rank t.ents q from HS.out.2.2.1)
      clear HS
      go_wp2_with fail
      go_ret
      rw [HE.out]
      exact ⟨rfl, rfl⟩
    | bin b l k a r =>
      obtain ⟨c0, c1, c2, c3, c4⟩ := HS.out.1.1.cells
      have HC := Lib.hid (compare_any k q wr)
      obtain ⟨d, hd⟩ : ∃ d, d = cmp k q := ⟨_, rfl⟩
      rw [← hd] at HC
      rw [show loc (.bin b l k a r) = some ⟨b, 0, none⟩ from rfl]
      have hss := HS.out.2.2.2
      have hz := HB.out
      simp only [T.size] at hss
      by_cases h1 : d < 0
      · have HL := Lib.hid (len_any wr HS.out.1.2.1)
        have hk := T.rank_right (q := q) HS.out.2.1 (by omega)
        have he := HS.out.2.2.1
        rw [T.ents, hk] at he
        obtain ⟨nl, hnl⟩ : ∃ n, n = l.size := ⟨_, rfl⟩
        have w1 : IntKind.i64.wrap ((nl : Int) + 1) = (nl : Int) + 1 := by rw [IntKind.wrap_i64]; omega
        have w2 : IntKind.i64.wrap ((n : Int) + ((nl : Int) + 1)) = (n : Int) + ((nl : Int) + 1) := by rw [IntKind.wrap_i64]; omega
        rw [← hnl] at HL
        have HN := Lib.hid (And.intro HS.out.1.2.2 (And.intro HS.out.2.1.snd (And.intro (show n + (nl + 1) + rank r.ents q = rank t.ents q by omega) (show r.size ≤ t.size by omega))))
        clear hd HS hk he hnl hss hz
        go_wp2_with (go_at_call 36; refine HC.out.mono ?_; rintro e x ⟨rfl, rfl⟩)
        refine HL.out.mono ?_
        rintro e x ⟨rfl, rfl⟩
        go_wp2_with fail
        go_roundg r.size
        case rel => exact ⟨r, n + (nl + 1), rfl, by go_num, rfl, rfl, HN⟩
        case measure => simp only [T.size]; omega
      · have hk := T.rank_left (q := q) HS.out.2.1 (by omega)
        have he := HS.out.2.2.1
        rw [T.ents, hk] at he
        have HN := Lib.hid (And.intro HS.out.1.2.1 (And.intro HS.out.2.1.fst (And.intro he (show l.size ≤ t.size by omega))))
        clear hd HS hk he hss hz
        go_wp2_with (go_at_call 36; refine HC.out.mono ?_; rintro e x ⟨rfl, rfl⟩)
        go_roundg l.size
        case rel => exact ⟨l, n, rfl, rfl, rfl, rfl, HN⟩
        case measure => simp only [T.size]; omega
set_option maxHeartbeats 4000000 in
set_option maxRecDepth 100000 in
theorem leftmost_any (t : T) (w : World) (h : IsT w t) (hn : t ≠ .nil) :
    Calls Try.prog 39 #[.pointer (loc t)] w fun e x => e = .returned (.agg #[.string t.first.1, .int .i64 t.first.2]) ∧ Below w.heap.size w x := by
  have hb := (Below.refl w.heap.size w).alloc (Nat.le_refl _) (.cells #[.string ByteArray.empty, .int .i64 0] tEn)
  have H := Lib.hid (And.intro (h.below hb) (And.intro hn (And.intro hb (heap_alloc_new w (.cells #[.string ByteArray.empty, .int .i64 0] tEn)))))
  clear h hn hb
  obtain ⟨W, hW⟩ : ∃ W, W = w.alloc (.cells #[.string ByteArray.empty, .int .i64 0] tEn) := ⟨_, rfl⟩
  rw [← hW] at H
  have HW := Lib.hid hW
  clear hW
  go_enter Try.func39, Try.ntmps39
  go_wp2_with fail
  go_loopg [0] t.size (fun k v wr => ∃ s, v = .pointer (loc s) ∧ wr = W ∧ s.size = k ∧ Hid (IsT W s ∧ s.first = t.first ∧ s ≠ .nil))
  case atStart => exact ⟨t, rfl, HW.out.symm, rfl, H.out.1, rfl, H.out.2.1⟩
  case round =>
    obtain ⟨s, rfl, rfl, rfl, HS⟩ := hrel
    cases s with
    | nil => exact absurd rfl HS.out.2.2
    | bin b l k a r =>
      obtain ⟨c0, c1, c2, c3, c4⟩ := HS.out.1.1.cells
      rw [show loc (.bin b l k a r) = some ⟨b, 0, none⟩ from rfl]
      cases l with
      | nil =>
        have hf := HS.out.2.1
        have g0 : wr.cell? ⟨w.heap.size, 0, none⟩ = some (.string ByteArray.empty) := by rw [Lib.cell_of_heap H.out.2.2.2]; rfl
        have g1 : wr.cell? ⟨w.heap.size, 1, none⟩ = some (.int .i64 0) := by rw [Lib.cell_of_heap H.out.2.2.2]; rfl
        have f0 : wr.frozen? ⟨w.heap.size, 0, none⟩ = false := Lib.frozen_of_heap H.out.2.2.2 0
        have f1 : wr.frozen? ⟨w.heap.size, 1, none⟩ = false := Lib.frozen_of_heap H.out.2.2.2 1
        have HF := Lib.hid (show (k, a) = t.first from hf)
        have hz : ((wr.setCell ⟨w.heap.size, 0, none⟩ (.string k)).setCell ⟨w.heap.size, 1, none⟩ (.int .i64 a)).heap[w.heap.size]? = some (.cells #[.string k, .int .i64 a] tEn (0, 0)) :=
          Lib.heap_setCell_same (i := 1) (Lib.heap_setCell_same (i := 0) H.out.2.2.2 (.string k)) (.int .i64 a)
        have hb := (H.out.2.2.1.setCell (p := ⟨w.heap.size, 0, none⟩) (Nat.le_refl _) (.string k)).setCell (p := ⟨w.heap.size, 1, none⟩) (Nat.le_refl _) (.int .i64 a)
        have HZ := Lib.hid (And.intro hz hb)
        rw [show loc T.nil = none from rfl] at c3
        clear hf HS hz hb HW
        go_wp2_with fail
        generalize (wr.setCell ⟨w.heap.size, 0, none⟩ (.string k)).setCell ⟨w.heap.size, 1, none⟩ (.int .i64 a) = F at *
        have e0 : F.cell? ⟨w.heap.size, 0, none⟩ = some (.string k) := by rw [Lib.cell_of_heap HZ.out.1]; rfl
        have e1 : F.cell? ⟨w.heap.size, 1, none⟩ = some (.int .i64 a) := by rw [Lib.cell_of_heap HZ.out.1]; rfl
        refine bodyPost_ret (v := .agg #[.string k, .int .i64 a]) (by simp [results, Try.results39, go_sem, e0, e1]) rfl ⟨?_, HZ.out.2⟩
        rw [← HF.out]
      | bin b2 l2 k2 a2 r2 =>
        rw [show loc (.bin b2 l2 k2 a2 r2) = some ⟨b2, 0, none⟩ from rfl] at c3
        have HN := Lib.hid (And.intro HS.out.1.2.1 (And.intro (show (T.bin b2 l2 k2 a2 r2).first = t.first from HS.out.2.1) (show T.bin b2 l2 k2 a2 r2 ≠ .nil by simp)))
        clear HS
        go_wp2_with fail
        go_roundg (T.bin b2 l2 k2 a2 r2).size
        case rel => exact ⟨T.bin b2 l2 k2 a2 r2, rfl, rfl, rfl, HN⟩
        case measure => simp only [T.size]; omega
end Hg
end Go.Proofs.Ytldacdpejncbnaa
