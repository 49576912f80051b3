/-
  Layer 2 (who), third part: package who's split: a text's pieces.
-/
import Derived.Test.YtbgbkhjcfchamaaWhoB
import Derived.Test.YtbgbkhjcfchamaaWhoPureB
namespace Go.Proofs.Ytbgbkhjcfchamaa
open Go.RowKit
namespace Who

/-- A text's piece. -/
def seg (s : ByteArray) (a p : Nat) : List UInt8 := (s.data.toList.drop a).take (p - a)

/-- The world in the loop: the text's iterator, the result, the pieces. -/
structure SpW (w : World) (s : ByteArray) (pos : Nat) (p0 p1 : List UInt8) (x : World) : Prop where
  below : Below w.heap.size w x
  iter : x.heap[w.heap.size + 2]? = some (.stringIter s pos)
  res : x.heap[w.heap.size]? = some (.cells #[.string ⟨#[]⟩, .string ⟨#[]⟩, .string ⟨#[]⟩] 23 (0, 0))
  row : x.heap[w.heap.size + 1]? = some (.cells #[.string (bs p0), .string (bs p1), .string ⟨#[]⟩] 63 (0, 0))

theorem cell_of {x : World} {b k : Nat} {cs : Array Value} {T : TypeId} {v : Value} (h : x.heap[b]? = some (.cells cs T (0, 0))) (hv : cs[k]? = some v) : x.cell? ⟨b, k, none⟩ = some v := by
  simp [World.cell?, h, hv]
theorem frozen_of {x : World} {b k : Nat} {cs : Array Value} {T : TypeId} (h : x.heap[b]? = some (.cells cs T (0, 0))) : x.frozen? ⟨b, k, none⟩ = false := by
  simp [World.frozen?, h]

theorem SpW.cells {w x : World} {s : ByteArray} {pos : Nat} {p0 p1 : List UInt8} (h : SpW w s pos p0 p1 x) :
    (x.cell? ⟨w.heap.size + 1, 0, none⟩ = some (.string (bs p0)) ∧ x.frozen? ⟨w.heap.size + 1, 0, none⟩ = false) ∧
    (x.cell? ⟨w.heap.size + 1, 1, none⟩ = some (.string (bs p1)) ∧ x.frozen? ⟨w.heap.size + 1, 1, none⟩ = false) ∧
    (x.cell? ⟨w.heap.size + 1, 2, none⟩ = some (.string ⟨#[]⟩) ∧ x.frozen? ⟨w.heap.size + 1, 2, none⟩ = false) ∧
    (x.cell? ⟨w.heap.size, 0, none⟩ = some (.string ⟨#[]⟩) ∧ x.frozen? ⟨w.heap.size, 0, none⟩ = false) ∧
    (x.cell? ⟨w.heap.size, 1, none⟩ = some (.string ⟨#[]⟩) ∧ x.frozen? ⟨w.heap.size, 1, none⟩ = false) ∧
    (x.cell? ⟨w.heap.size, 2, none⟩ = some (.string ⟨#[]⟩) ∧ x.frozen? ⟨w.heap.size, 2, none⟩ = false) :=
  ⟨⟨cell_of h.row rfl, frozen_of h.row⟩, ⟨cell_of h.row rfl, frozen_of h.row⟩, ⟨cell_of h.row rfl, frozen_of h.row⟩, ⟨cell_of h.res rfl, frozen_of h.res⟩, ⟨cell_of h.res rfl, frozen_of h.res⟩, ⟨cell_of h.res rfl, frozen_of h.res⟩⟩

theorem iterAt_other (w : World) (k i : Nat) (s : ByteArray) (p : Nat) (h : i ≠ k) : (w.iterAt k s p).heap[i]? = w.heap[i]? := by
  simp only [World.iterAt]
  first | (rw [Array.getElem?_setIfInBounds_ne (Ne.symm h)]) | simp [h]

theorem SpW.next {w x : World} {s : ByteArray} {pos p : Nat} {p0 p1 : List UInt8} (h : SpW w s pos p0 p1 x) : SpW w s p p0 p1 (x.iterAt (w.heap.size + 2) s p) :=
  ⟨Lib.below_iterAt h.below (by omega) s p, Lib.iterAt_heap x (w.heap.size + 2) s pos p h.iter, (iterAt_other x _ _ s p (by omega)).trans h.res, (iterAt_other x _ _ s p (by omega)).trans h.row⟩
theorem SpW.set0 {w x : World} {s : ByteArray} {pos : Nat} {p0 p1 q : List UInt8} {v : ByteArray} (h : SpW w s pos p0 p1 x) (hv : v = bs q) : SpW w s pos q p1 (x.setCell ⟨w.heap.size + 1, 0, none⟩ (.string v)) :=
  ⟨h.below.setCell (by simp) _, (heap_setCell_other _ _ _ _ (by simp)).trans h.iter, (heap_setCell_other _ _ _ _ (by simp)).trans h.res, by rw [heap_setCell_same _ _ _ _ _ _ h.row, hv]; rfl⟩
theorem SpW.set1 {w x : World} {s : ByteArray} {pos : Nat} {p0 p1 q : List UInt8} {v : ByteArray} (h : SpW w s pos p0 p1 x) (hv : v = bs q) : SpW w s pos p0 q (x.setCell ⟨w.heap.size + 1, 1, none⟩ (.string v)) :=
  ⟨h.below.setCell (by simp) _, (heap_setCell_other _ _ _ _ (by simp)).trans h.iter, (heap_setCell_other _ _ _ _ (by simp)).trans h.res, by rw [heap_setCell_same _ _ _ _ _ _ h.row, hv]; rfl⟩

/-- A subject as a value. -/
def subjV (x : List UInt8 × List UInt8 × List UInt8) : Value := .agg #[.string (bs x.1), .string (bs x.2.1), .string (bs x.2.2)]

theorem iter_old (w : World) (s : ByteArray) (p i : Nat) (h : i < w.heap.size) : (w.iter s p).heap[i]? = w.heap[i]? := by
  unfold World.iter
  exact heap_alloc_old w _ h

theorem SpW.start (w : World) (s : ByteArray) : SpW w s 0 [] [] (((w.alloc (.cells #[.string ⟨#[]⟩, .string ⟨#[]⟩, .string ⟨#[]⟩] 23)).alloc (.cells #[.string ⟨#[]⟩, .string ⟨#[]⟩, .string ⟨#[]⟩] 63)).iter s 0) := by
  refine ⟨(((Below.refl _ _).alloc (Nat.le_refl _) _).alloc (by simp) _).alloc (by simp; omega) _, ?_, ?_, ?_⟩
  · have h := World.iter_heap ((w.alloc (.cells #[.string ⟨#[]⟩, .string ⟨#[]⟩, .string ⟨#[]⟩] 23)).alloc (.cells #[.string ⟨#[]⟩, .string ⟨#[]⟩, .string ⟨#[]⟩] 63)) s 0
    rw [World.size_alloc, World.size_alloc] at h
    exact h
  · rw [iter_old _ _ _ _ (by simp; omega)]
    exact heap_alloc2_old w _ _
  · rw [iter_old _ _ _ _ (by simp)]
    exact heap_alloc2_new w _ _

theorem seg_cut {s : ByteArray} {a p : Nat} : s.extract a p = bs (seg s a p) := bs_cut s a p
theorem seg_end {s : ByteArray} {a : Nat} : s.extract a s.size = bs (s.data.toList.drop a) := by
  rw [bs_cut, List.take_of_length_le (by rw [List.length_drop, Lib.size_eq]; exact Nat.le_refl _)]

theorem slice_run (s : ByteArray) (a p : Nat) (h1 : a ≤ p) (h2 : p ≤ s.size) (W : World) :
    (Instr.slice 9 (.string s) (some (.int .i64 (a : Int))) (some (.int .i64 (p : Int))) none).run Try.prog W = .ok (.string (bs (seg s a p))) W := by
  rw [run_slice_string _ 9 s .i64 .i64 (a : Int) (p : Int) Try.underlying9 (by omega) (by omega) (by omega), Int.toNat_natCast, Int.toNat_natCast, seg_cut]
theorem slice_from (s : ByteArray) (a : Nat) (h : a ≤ s.size) (W : World) :
    (Instr.slice 9 (.string s) (some (.int .i64 (a : Int))) none none).run Try.prog W = .ok (.string (bs (s.data.toList.drop a))) W := by
  rw [run_slice_string_from_if _ 9 s .i64 (a : Int) Try.underlying9, if_pos (by omega), Int.toNat_natCast, seg_end]

set_option maxHeartbeats 4000000 in
set_option maxRecDepth 100000 in
theorem split_any (s : ByteArray) (w : World) (hs : s.size ≤ 4000000) :
    Calls Try.prog 34 #[.string s] w fun e w' => e = .returned (subjV (sp s.data.toList)) ∧ Below w.heap.size w w' := by
  go_enter Try.func34, Try.ntmps34
  go_wp2
  go_loopw [4, 5] (fun v u wr => ∃ (pos n a : Nat) (p0 p1 : List UInt8), v = .int .i64 n ∧ u = .int .i64 a ∧ SpW w s pos p0 p1 wr ∧ Hid (St s.data.toList n a pos p0 p1)) (fun _ _ wr => s.size - wr.iterPos (w.heap.size + 2))
  case atStart => exact ⟨0, 0, 0, [], [], rfl, rfl, SpW.start w s, Lib.hid (St.start _)⟩
  case round =>
    obtain ⟨pos, n, a, p0, p1, rfl, rfl, hW, HS⟩ := hrel
    have hit := hW.iter
    have hpos0 := iterPos_of hit
    obtain ⟨hn2, hap, hpl⟩ := HS.out.le
    rw [← Lib.size_eq] at hpl
    by_cases hp : pos < s.size
    · have hnx : ∀ ty, (Instr.next (.pointer (some ⟨w.heap.size + 2, 0, none⟩)) true ty).run Try.prog wr = _ := fun ty => Lib.run_next_any_at wr (w.heap.size + 2) s pos ty hit hp
      have hp' : pos < s.data.toList.length := by rw [← Lib.size_eq]; exact hp
      have hwd := Gl.width s pos hp
      have hW2 := hW.next (p := pos + (Utf8.decode s pos).2)
      have hnext := HS.out.next hp'
      rw [← Gly.dec_at] at hnext
      obtain ⟨W1, hW1⟩ : ∃ W1, W1 = wr.iterAt (w.heap.size + 2) s (pos + (Utf8.decode s pos).2) := ⟨_, rfl⟩
      rw [← hW1] at hnx hW2
      clear hW1 hit hW
      rcases (show n = 0 ∨ n = 1 ∨ n = 2 by omega) with rfl | rfl | rfl
      · by_cases hr : (Utf8.decode s pos).1 = 58
        · have h58 : (((Utf8.decode s pos).1 : Nat) : Int) = 58 := by omega
          rw [h58] at hnx
          have hr' := hr
          rw [Gly.dec_at] at hr'
          obtain ⟨h1, h2⟩ := HS.out.colon hp' hr'
          rw [← Gly.dec_at] at h1
          rw [h1] at hW2
          have H2 := Lib.hid h2
          have hsl := slice_run s a pos hap hpl
          obtain ⟨⟨c0, f0⟩, -⟩ := hW2.cells
          clear h1 h2 hr hr' h58 hwd hnext
          go_wp2
          go_roundw
          case rel => exact ⟨pos + 1, 1, pos + 1, _, _, by go_num, by go_num, hW2.set0 rfl, H2⟩
          case measure => rw [iterPos_of (hW2.set0 (q := seg s a pos) rfl).iter, hpos0]; omega
        · have hb : ((((Utf8.decode s pos).1 : Nat) : Int) == 58) = false := by simp; omega
          have H2 := Lib.hid (hnext (fun _ => hr) (fun h => by omega))
          clear hr hnext
          go_wp2
          go_roundw
          case rel => exact ⟨_, 0, a, _, _, rfl, rfl, hW2, H2⟩
          case measure => rw [iterPos_of hW2.iter, hpos0]; omega
      · by_cases hr : (Utf8.decode s pos).1 = 35
        · have h58 : (((Utf8.decode s pos).1 : Nat) : Int) = 35 := by omega
          rw [h58] at hnx
          have hr' := hr
          rw [Gly.dec_at] at hr'
          obtain ⟨h1, h2⟩ := HS.out.hash hp' hr'
          rw [← Gly.dec_at] at h1
          rw [h1] at hW2
          have H2 := Lib.hid h2
          have hsl := slice_run s a pos hap hpl
          obtain ⟨-, ⟨c0, f0⟩, -⟩ := hW2.cells
          clear h1 h2 hr hr' h58 hwd hnext
          go_wp2
          go_roundw
          case rel => exact ⟨pos + 1, 2, pos + 1, _, _, by go_num, by go_num, hW2.set1 rfl, H2⟩
          case measure => rw [iterPos_of (hW2.set1 (q := seg s a pos) rfl).iter, hpos0]; omega
        · have hb : ((((Utf8.decode s pos).1 : Nat) : Int) == 35) = false := by simp; omega
          have H2 := Lib.hid (hnext (fun h => by omega) (fun _ => hr))
          clear hr hnext
          go_wp2
          go_roundw
          case rel => exact ⟨_, 1, a, _, _, rfl, rfl, hW2, H2⟩
          case measure => rw [iterPos_of hW2.iter, hpos0]; omega
      · have H2 := Lib.hid (hnext (fun h => by omega) (fun h => by omega))
        clear hnext
        go_wp2
        go_roundw
        case rel => exact ⟨_, 2, a, _, _, rfl, rfl, hW2, H2⟩
        case measure => rw [iterPos_of hW2.iter, hpos0]; omega
    · have hnx : ∀ ty, (Instr.next (.pointer (some ⟨w.heap.size + 2, 0, none⟩)) true ty).run Try.prog wr = _ := fun ty => Lib.run_next_end_at wr (w.heap.size + 2) s pos ty hit hp
      have hp' : ¬ pos < s.data.toList.length := by rw [← Lib.size_eq]; exact hp
      have hsl := slice_from s a (by omega)
      obtain ⟨⟨c0, f0⟩, ⟨c1, f1⟩, ⟨c2, f2⟩, ⟨r0, g0⟩, ⟨r1, g1⟩, ⟨r2, g2⟩⟩ := hW.cells
      clear hit
      rcases (show n = 0 ∨ n = 1 ∨ n = 2 by omega) with rfl | rfl | rfl
      · have HE := Lib.hid (HS.out.end0 hp')
        clear hp' hp
        go_wp2
        refine bodyPost_ret (v := subjV (sp s.data.toList)) ?_ rfl ⟨rfl, ?_⟩
        · rw [HE.out]
          simp [results, Try.results34, go_sem, subjV, bs, r0, r1, r2]
        · exact ((((hW.below).setCell (by simp) _).setCell (by simp) _).setCell (by simp) _).setCell (by simp) _
      · have HE := Lib.hid (HS.out.end1 hp')
        clear hp' hp
        go_wp2
        refine bodyPost_ret (v := subjV (sp s.data.toList)) ?_ rfl ⟨rfl, ?_⟩
        · rw [HE.out]
          simp [results, Try.results34, go_sem, subjV, bs, r0, r1, r2]
        · exact ((((hW.below).setCell (by simp) _).setCell (by simp) _).setCell (by simp) _).setCell (by simp) _
      · have HE := Lib.hid (HS.out.end2)
        clear hp' hp
        go_wp2
        refine bodyPost_ret (v := subjV (sp s.data.toList)) ?_ rfl ⟨rfl, ?_⟩
        · rw [HE.out]
          simp [results, Try.results34, go_sem, subjV, bs, r0, r1, r2]
        · exact ((((hW.below).setCell (by simp) _).setCell (by simp) _).setCell (by simp) _).setCell (by simp) _
end Who
end Go.Proofs.Ytbgbkhjcfchamaa
