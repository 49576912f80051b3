/-
  Layer 3 (bond), fourth part: package bond's split: the pieces of a tuple's text.
-/
import Derived.Test.YtbgbkhjcfchamaaBondA
import Derived.Test.YtbgbkhjcfchamaaBondPureB
import Derived.Test.YtbgbkhjcfchamaaWhoC
namespace Go.Proofs.Ytbgbkhjcfchamaa
open Go.RowKit
namespace Bond
open Who (bs bs_list seg cell_of frozen_of iterAt_other iter_old slice_run slice_from)

/-- The world in the loop: the text's iterator, the pieces. -/
structure SpB (w : World) (s : ByteArray) (pos : Nat) (p0 p1 : List UInt8) (x : World) : Prop where
  below : Below w.heap.size w x
  iter : x.heap[w.heap.size + 1]? = some (.stringIter s pos)
  row : x.heap[w.heap.size]? = some (.cells #[.string (bs p0), .string (bs p1), .string ⟨#[]⟩] 63 (0, 0))

theorem SpB.cells {w x : World} {s : ByteArray} {pos : Nat} {p0 p1 : List UInt8} (h : SpB w s pos p0 p1 x) :
    (x.cell? ⟨w.heap.size, 0, none⟩ = some (.string (bs p0)) ∧ x.frozen? ⟨w.heap.size, 0, none⟩ = false) ∧
    (x.cell? ⟨w.heap.size, 1, none⟩ = some (.string (bs p1)) ∧ x.frozen? ⟨w.heap.size, 1, none⟩ = false) ∧
    (x.cell? ⟨w.heap.size, 2, none⟩ = some (.string ⟨#[]⟩) ∧ x.frozen? ⟨w.heap.size, 2, none⟩ = false) :=
  ⟨⟨cell_of h.row rfl, frozen_of h.row⟩, ⟨cell_of h.row rfl, frozen_of h.row⟩, ⟨cell_of h.row rfl, frozen_of h.row⟩⟩
theorem SpB.next {w x : World} {s : ByteArray} {pos p : Nat} {p0 p1 : List UInt8} (h : SpB w s pos p0 p1 x) : SpB w s p p0 p1 (x.iterAt (w.heap.size + 1) s p) :=
  ⟨Lib.below_iterAt h.below (by omega) s p, Lib.iterAt_heap x (w.heap.size + 1) s pos p h.iter, (iterAt_other x _ _ s p (by omega)).trans h.row⟩
theorem SpB.set0 {w x : World} {s : ByteArray} {pos : Nat} {p0 p1 q : List UInt8} {v : ByteArray} (h : SpB w s pos p0 p1 x) (hv : v = bs q) : SpB w s pos q p1 (x.setCell ⟨w.heap.size, 0, none⟩ (.string v)) :=
  ⟨h.below.setCell (by simp) _, (heap_setCell_other _ _ _ _ (by simp)).trans h.iter, by rw [heap_setCell_same _ _ _ _ _ _ h.row, hv]; rfl⟩
theorem SpB.set1 {w x : World} {s : ByteArray} {pos : Nat} {p0 p1 q : List UInt8} {v : ByteArray} (h : SpB w s pos p0 p1 x) (hv : v = bs q) : SpB w s pos p0 q (x.setCell ⟨w.heap.size, 1, none⟩ (.string v)) :=
  ⟨h.below.setCell (by simp) _, (heap_setCell_other _ _ _ _ (by simp)).trans h.iter, by rw [heap_setCell_same _ _ _ _ _ _ h.row, hv]; rfl⟩
theorem SpB.start (w : World) (s : ByteArray) : SpB w s 0 [] [] ((w.alloc (.cells #[.string ⟨#[]⟩, .string ⟨#[]⟩, .string ⟨#[]⟩] 63)).iter s 0) := by
  refine ⟨((Below.refl _ _).alloc (Nat.le_refl _) _).alloc (by simp) _, ?_, ?_⟩
  · have h := World.iter_heap (w.alloc (.cells #[.string ⟨#[]⟩, .string ⟨#[]⟩, .string ⟨#[]⟩] 63)) s 0
    rw [World.size_alloc] at h
    exact h
  · rw [iter_old _ _ _ _ (by simp)]
    exact heap_alloc_new w _

/-- The pieces as an answer. -/
def spV (x : List UInt8 × List UInt8 × List UInt8) : Value := .tuple #[.string (bs x.1), .string (bs x.2.1), .string (bs x.2.2)]

set_option maxHeartbeats 4000000 in
set_option maxRecDepth 100000 in
theorem split_any (s : ByteArray) (w : World) (hs : s.size ≤ 4000000) :
    Calls Try.prog 19 #[.string s] w fun e w' => e = .returned (spV (sp s.data.toList)) ∧ Below w.heap.size w w' := by
  go_enter Try.func19, Try.ntmps19
  go_wp2
  go_loopw [6, 7] (fun v u wr => ∃ (pos n a : Nat) (p0 p1 : List UInt8), v = .int .i64 n ∧ u = .int .i64 a ∧ SpB w s pos p0 p1 wr ∧ Hid (St s.data.toList n a pos p0 p1)) (fun _ _ wr => s.size - wr.iterPos (w.heap.size + 1))
  case atStart => exact ⟨0, 0, 0, [], [], rfl, rfl, SpB.start w s, Lib.hid (St.start _)⟩
  case round =>
    obtain ⟨pos, n, a, p0, p1, rfl, rfl, hW, HS⟩ := hrel
    have hit := hW.iter
    have hpos0 := iterPos_of hit
    obtain ⟨hn2, hap, hpl⟩ := HS.out.le
    rw [← Lib.size_eq] at hpl
    by_cases hp : pos < s.size
    · have hnx : ∀ ty, (Instr.next (.pointer (some ⟨w.heap.size + 1, 0, none⟩)) true ty).run Try.prog wr = _ := fun ty => Lib.run_next_any_at wr (w.heap.size + 1) s pos ty hit hp
      have hp' : pos < s.data.toList.length := by rw [← Lib.size_eq]; exact hp
      have hwd := Gl.width s pos hp
      have hW2 := hW.next (p := pos + (Utf8.decode s pos).2)
      have hnext := HS.out.next hp'
      rw [← Gly.dec_at] at hnext
      obtain ⟨W1, hW1⟩ : ∃ W1, W1 = wr.iterAt (w.heap.size + 1) s (pos + (Utf8.decode s pos).2) := ⟨_, rfl⟩
      rw [← hW1] at hnx hW2
      clear hW1 hit hW
      rcases (show n = 0 ∨ n = 1 ∨ n = 2 by omega) with rfl | rfl | rfl
      · by_cases hr : (Utf8.decode s pos).1 = 35
        · have h35 : (((Utf8.decode s pos).1 : Nat) : Int) = 35 := by omega
          rw [h35] at hnx
          have hr' := hr
          rw [Gly.dec_at] at hr'
          obtain ⟨h1, h2⟩ := HS.out.hash hp' hr'
          rw [← Gly.dec_at] at h1
          rw [h1] at hW2
          have H2 := Lib.hid h2
          have hsl := slice_run s a pos hap hpl
          obtain ⟨⟨c0, f0⟩, -⟩ := hW2.cells
          clear h1 h2 hr hr' h35 hwd hnext
          go_wp2
          go_roundw
          case rel => exact ⟨pos + 1, 1, pos + 1, _, _, by go_num, by go_num, hW2.set0 rfl, H2⟩
          case measure => rw [iterPos_of (hW2.set0 (q := seg s a pos) rfl).iter, hpos0]; omega
        · have hb : ((((Utf8.decode s pos).1 : Nat) : Int) == 35) = false := by simp; omega
          have H2 := Lib.hid (hnext (fun _ => hr) (fun h => by omega))
          clear hr hnext
          go_wp2
          go_roundw
          case rel => exact ⟨_, 0, a, _, _, rfl, rfl, hW2, H2⟩
          case measure => rw [iterPos_of hW2.iter, hpos0]; omega
      · by_cases hr : (Utf8.decode s pos).1 = 64
        · have h35 : (((Utf8.decode s pos).1 : Nat) : Int) = 64 := by omega
          rw [h35] at hnx
          have hr' := hr
          rw [Gly.dec_at] at hr'
          obtain ⟨h1, h2⟩ := HS.out.at hp' hr'
          rw [← Gly.dec_at] at h1
          rw [h1] at hW2
          have H2 := Lib.hid h2
          have hsl := slice_run s a pos hap hpl
          obtain ⟨-, ⟨c0, f0⟩, -⟩ := hW2.cells
          clear h1 h2 hr hr' h35 hwd hnext
          go_wp2
          go_roundw
          case rel => exact ⟨pos + 1, 2, pos + 1, _, _, by go_num, by go_num, hW2.set1 rfl, H2⟩
          case measure => rw [iterPos_of (hW2.set1 (q := seg s a pos) rfl).iter, hpos0]; omega
        · have hb : ((((Utf8.decode s pos).1 : Nat) : Int) == 64) = false := by simp; omega
          have H2 := Lib.hid (hnext (fun h => by omega) (fun _ => hr))
          clear hr hnext
          go_wp2
          go_roundw
          case rel => exact ⟨_, 1, a, _, _, rfl, rfl, hW2, H2⟩
          case measure => rw [iterPos_of hW2.iter, hpos0]; omega
      · have H2 := Lib.hid (hnext (fun h => by omega) (fun h => by omega))
        clear hnext
        go_wp2
        go_roundw
        case rel => exact ⟨_, 2, a, _, _, rfl, rfl, hW2, H2⟩
        case measure => rw [iterPos_of hW2.iter, hpos0]; omega
    · have hnx : ∀ ty, (Instr.next (.pointer (some ⟨w.heap.size + 1, 0, none⟩)) true ty).run Try.prog wr = _ := fun ty => Lib.run_next_end_at wr (w.heap.size + 1) s pos ty hit hp
      have hp' : ¬ pos < s.data.toList.length := by rw [← Lib.size_eq]; exact hp
      have hsl := slice_from s a (by omega)
      obtain ⟨⟨c0, f0⟩, ⟨c1, f1⟩, ⟨c2, f2⟩⟩ := hW.cells
      clear hit
      rcases (show n = 0 ∨ n = 1 ∨ n = 2 by omega) with rfl | rfl | rfl
      · have HE := Lib.hid (HS.out.end0 hp')
        clear hp' hp
        go_wp2_with fail
        go_quiet (fail)
        go_wp2
        go_ret3
        exact ⟨by rw [HE.out]; rfl, below_drewN (hW.below.setCell (by simp) _) _⟩
      · have HE := Lib.hid (HS.out.end1 hp')
        clear hp' hp
        go_wp2_with fail
        go_quiet (fail)
        go_wp2
        go_ret3
        exact ⟨by rw [HE.out]; rfl, below_drewN (hW.below.setCell (by simp) _) _⟩
      · have HE := Lib.hid (HS.out.end2)
        clear hp' hp
        go_wp2_with fail
        go_quiet (fail)
        go_wp2
        go_ret3
        exact ⟨by rw [HE.out]; rfl, below_drewN (hW.below.setCell (by simp) _) _⟩
end Bond
end Go.Proofs.Ytbgbkhjcfchamaa
