/-
  Layer 2 (who), second part: texts of subjects, on both sides; Of.
  Layer 2 (who), third part: package who's split: a text's pieces.
  Layer 3 (bond), fourth part: package bond's split: the pieces of a tuple's text.
  Layer 3 (bond), fifth part: texts of tuples, on both sides.
  Layer 2 (who), fourth part: the document's Cut and Read.
  Layer 2 (who), fifth part: package who's Read and ReadObject.
  Layer 2 (who), sixth part: package who's ReadObject.
  Layer 3 (bond), sixth part: package bond's Read.
-/
import Derived.Test.YtopncohhagebbaaGreatDoorBgB
import Derived.Test.YtopncohhagebbaaGreatDoorMgMem
import Derived.Deep.RegionHeld3
import Derived.Test.YtopncohhagebbaaGreatDoorBgA
namespace Go.Proofs.YtopncohhagebbaaGreatDoor
open Go.RowKit
namespace Who

/-- What Text answers. -/
def textV (t i r : ByteArray) : ByteArray := bs (text t.data.toList i.data.toList r.data.toList)
theorem textV_none (t i r : ByteArray) (h : r.data.toList = []) : t ++ ⟨#[58]⟩ ++ i = textV t i r := by
  apply eq_of_list
  rw [textV, bs_list, text, if_pos h]
  simp [ByteArray.data_append]
theorem textV_some (t i r : ByteArray) (h : r.data.toList ≠ []) : t ++ ⟨#[58]⟩ ++ i ++ (⟨#[35]⟩ ++ r) = textV t i r := by
  apply eq_of_list
  rw [textV, bs_list, text, if_neg h]
  simp [ByteArray.data_append]
theorem textV_some' (t i r : ByteArray) (h : r.data.toList ≠ []) : t ++ ⟨#[58]⟩ ++ i ++ ⟨#[35]⟩ ++ r = textV t i r := by
  apply eq_of_list
  rw [textV, bs_list, text, if_neg h]
  simp [ByteArray.data_append]
theorem ret_string {a b : ByteArray} (h : a = b) : Ending.returned (.string a) = .returned (.string b) := by rw [h]

set_option maxHeartbeats 1000000 in
theorem text_any (t i r : ByteArray) (w : World) (ht : t.size ≤ 4000000) (hi : i.size ≤ 4000000) (hr : r.size ≤ 4000000) :
    Calls Tryz.prog 111 #[.agg #[.string t, .string i, .string r]] w fun e w' => e = .returned (.string (textV t i r)) ∧ Below w.heap.size w w' := by
  by_cases he : r.data.toList = []
  · have hv := textV_none t i r he
    obtain ⟨e1, e2⟩ := emp_true he
    have HV := Lib.hid hv
    clear hv he
    go_enter Tryz.func111, Tryz.ntmps111
    go_wp2
    go_ret
    exact ⟨ret_string HV.out, boxed (Below.refl _ _)⟩
  · have hv := textV_some t i r he
    obtain ⟨e1, e2⟩ := emp_false he
    have HV := Lib.hid hv
    clear hv he
    go_enter Tryz.func111, Tryz.ntmps111
    go_wp2
    go_ret
    exact ⟨ret_string HV.out, boxed (Below.refl _ _)⟩

set_option maxHeartbeats 2000000 in
/-- What Of answers is its own memory. -/
theorem of_any (t i r : ByteArray) (w : World) (ht : t.size ≤ 4000000) (hi : i.size ≤ 4000000) (hr : r.size ≤ 4000000) :
    Calls Tryz.prog 112 #[.agg #[.string t, .string i], .string r] w fun e w' => e = .returned (.agg #[.string t, .string i, .string r]) ∧ Below w.heap.size w w' := by
  have HC := Lib.hid (fun s w => clone_any s w)
  go_enter Tryz.func112, Tryz.ntmps112
  go_wp2_with fail
  obtain ⟨W, hW⟩ : ∃ W, W = (w.alloc (Obj.cells #[.string t, .string i] 63)).alloc (Obj.cells #[.string ⟨#[]⟩, .string ⟨#[]⟩, .string ⟨#[]⟩] 55) := ⟨_, rfl⟩
  have hH : Held w [(⟨w.heap.size, 0, none⟩, .string t), (⟨w.heap.size, 1, none⟩, .string i), (⟨w.heap.size + 1, 0, none⟩, .string ⟨#[]⟩), (⟨w.heap.size + 1, 1, none⟩, .string ⟨#[]⟩), (⟨w.heap.size + 1, 2, none⟩, .string ⟨#[]⟩)] W := by
    rw [hW]
    refine ⟨((Below.refl _ _).alloc (Nat.le_refl _) _).alloc (by simp) _, ?_⟩
    simp only [List.forall_mem_cons]
    simp
    omega
  rw [← hW]
  clear hW
  have I0 := hH.drew
  have q := I0.all
  simp only [List.forall_mem_cons] at q
  clear hH
  obtain ⟨⟨z0, q0, _⟩, ⟨_, q1, _⟩, ⟨z1, q2, g2⟩, ⟨_, q3, g3⟩, ⟨_, q4, g4⟩, _⟩ := q
  go_region_held3 (fun x => x.cell? ⟨w.heap.size, 0, none⟩ = some (.string t) ∧ x.cell? ⟨w.heap.size, 1, none⟩ = some (.string i) ∧ Below w.heap.size w x)
    (first | (exact ⟨by assumption, by assumption, Held.below (by assumption)⟩) | (refine ⟨by go_keep, by go_keep, ?_⟩; (repeat (refine Below.setCell ?_ (by simp) _)); exact Held.below (by assumption)))
    (first | (go_at_call 64; refine (HC.out _ _ (by omega)).mono ?_; rintro e w1 ⟨rfl, b1⟩; have I := Held.step b1 (by assumption); have q := I.all; simp only [List.forall_mem_cons] at q; obtain ⟨⟨_, k0, _⟩, ⟨_, k1, _⟩, ⟨_, k2, f2⟩, ⟨_, k3, f3⟩, ⟨_, k4, f4⟩, _⟩ := q))
  go_wp2
  refine bodyPost_ret (v := .agg #[.string t, .string i, .string r]) (by simp [results, Tryz.results112, go_sem, k2, k3, k4]) rfl ?_
  exact ⟨rfl, (((Held.below I).setCell (by simp) _).setCell (by simp) _).setCell (by simp) _⟩
end Who
end Go.Proofs.YtopncohhagebbaaGreatDoor

namespace Go.Proofs.YtopncohhagebbaaGreatDoor
open Go.RowKit
namespace Who

/-- A text's piece. -/
def seg (s : ByteArray) (a p : Nat) : List UInt8 := (s.data.toList.drop a).take (p - a)

/-- The world in the loop: the text's iterator, the result, the pieces. -/
structure SpW (w : World) (s : ByteArray) (pos : Nat) (p0 p1 : List UInt8) (x : World) : Prop where
  below : Below w.heap.size w x
  iter : x.heap[w.heap.size + 2]? = some (.stringIter s pos)
  res : x.heap[w.heap.size]? = some (.cells #[.string ⟨#[]⟩, .string ⟨#[]⟩, .string ⟨#[]⟩] 55 (0, 0))
  row : x.heap[w.heap.size + 1]? = some (.cells #[.string (bs p0), .string (bs p1), .string ⟨#[]⟩] 175 (0, 0))

theorem cell_of {x : World} {b k : Nat} {cs : Array Value} {T : TypeId} {v : Value} (h : x.heap[b]? = some (.cells cs T (0, 0))) (hv : cs[k]? = some v) : x.cell? ⟨b, k, none⟩ = some v := by
  simp [World.cell?, h, hv]
theorem frozen_of {x : World} {b k : Nat} {cs : Array Value} {T : TypeId} (h : x.heap[b]? = some (.cells cs T (0, 0))) : x.frozen? ⟨b, k, none⟩ = false := by
  simp [World.frozen?, h]

theorem SpW.cells {w x : World} {s : ByteArray} {pos : Nat} {p0 p1 : List UInt8} (h : SpW w s pos p0 p1 x) :
    (x.cell? ⟨w.heap.size + 1, 0, none⟩ = some (.string (bs p0)) ∧ x.frozen? ⟨w.heap.size + 1, 0, none⟩ = false) ∧
    (x.cell? ⟨w.heap.size + 1, 1, none⟩ = some (.string (bs p1)) ∧ x.frozen? ⟨w.heap.size + 1, 1, none⟩ = false) ∧
    (x.cell? ⟨w.heap.size + 1, 2, none⟩ = some (.string ⟨#[]⟩) ∧ x.frozen? ⟨w.heap.size + 1, 2, none⟩ = false) ∧
    (x.cell? ⟨w.heap.size, 0, none⟩ = some (.string ⟨#[]⟩) ∧ x.frozen? ⟨w.heap.size, 0, none⟩ = false) ∧
    (x.cell? ⟨w.heap.size, 1, none⟩ = some (.string ⟨#[]⟩) ∧ x.frozen? ⟨w.heap.size, 1, none⟩ = false) ∧
    (x.cell? ⟨w.heap.size, 2, none⟩ = some (.string ⟨#[]⟩) ∧ x.frozen? ⟨w.heap.size, 2, none⟩ = false) :=
  ⟨⟨cell_of h.row rfl, frozen_of h.row⟩, ⟨cell_of h.row rfl, frozen_of h.row⟩, ⟨cell_of h.row rfl, frozen_of h.row⟩, ⟨cell_of h.res rfl, frozen_of h.res⟩, ⟨cell_of h.res rfl, frozen_of h.res⟩, ⟨cell_of h.res rfl, frozen_of h.res⟩⟩

theorem iterAt_other (w : World) (k i : Nat) (s : ByteArray) (p : Nat) (h : i ≠ k) : (w.iterAt k s p).heap[i]? = w.heap[i]? := by
  simp only [World.iterAt]
  first | (rw [Array.getElem?_setIfInBounds_ne (Ne.symm h)]) | simp [h]

theorem SpW.next {w x : World} {s : ByteArray} {pos p : Nat} {p0 p1 : List UInt8} (h : SpW w s pos p0 p1 x) : SpW w s p p0 p1 (x.iterAt (w.heap.size + 2) s p) :=
  ⟨Lib.below_iterAt h.below (by omega) s p, Lib.iterAt_heap x (w.heap.size + 2) s pos p h.iter, (iterAt_other x _ _ s p (by omega)).trans h.res, (iterAt_other x _ _ s p (by omega)).trans h.row⟩
theorem SpW.set0 {w x : World} {s : ByteArray} {pos : Nat} {p0 p1 q : List UInt8} {v : ByteArray} (h : SpW w s pos p0 p1 x) (hv : v = bs q) : SpW w s pos q p1 (x.setCell ⟨w.heap.size + 1, 0, none⟩ (.string v)) :=
  ⟨h.below.setCell (by simp) _, (heap_setCell_other _ _ _ _ (by simp)).trans h.iter, (heap_setCell_other _ _ _ _ (by simp)).trans h.res, by rw [heap_setCell_same _ _ _ _ _ _ h.row, hv]; rfl⟩
theorem SpW.set1 {w x : World} {s : ByteArray} {pos : Nat} {p0 p1 q : List UInt8} {v : ByteArray} (h : SpW w s pos p0 p1 x) (hv : v = bs q) : SpW w s pos p0 q (x.setCell ⟨w.heap.size + 1, 1, none⟩ (.string v)) :=
  ⟨h.below.setCell (by simp) _, (heap_setCell_other _ _ _ _ (by simp)).trans h.iter, (heap_setCell_other _ _ _ _ (by simp)).trans h.res, by rw [heap_setCell_same _ _ _ _ _ _ h.row, hv]; rfl⟩

/-- A subject as a value. -/
def subjV (x : List UInt8 × List UInt8 × List UInt8) : Value := .agg #[.string (bs x.1), .string (bs x.2.1), .string (bs x.2.2)]

theorem iter_old (w : World) (s : ByteArray) (p i : Nat) (h : i < w.heap.size) : (w.iter s p).heap[i]? = w.heap[i]? := by
  unfold World.iter
  exact heap_alloc_old w _ h

theorem SpW.start (w : World) (s : ByteArray) : SpW w s 0 [] [] (((w.alloc (.cells #[.string ⟨#[]⟩, .string ⟨#[]⟩, .string ⟨#[]⟩] 55)).alloc (.cells #[.string ⟨#[]⟩, .string ⟨#[]⟩, .string ⟨#[]⟩] 175)).iter s 0) := by
  refine ⟨(((Below.refl _ _).alloc (Nat.le_refl _) _).alloc (by simp) _).alloc (by simp; omega) _, ?_, ?_, ?_⟩
  · have h := World.iter_heap ((w.alloc (.cells #[.string ⟨#[]⟩, .string ⟨#[]⟩, .string ⟨#[]⟩] 55)).alloc (.cells #[.string ⟨#[]⟩, .string ⟨#[]⟩, .string ⟨#[]⟩] 175)) s 0
    rw [World.size_alloc, World.size_alloc] at h
    exact h
  · rw [iter_old _ _ _ _ (by simp; omega)]
    exact heap_alloc2_old w _ _
  · rw [iter_old _ _ _ _ (by simp)]
    exact heap_alloc2_new w _ _

theorem seg_cut {s : ByteArray} {a p : Nat} : s.extract a p = bs (seg s a p) := bs_cut s a p
theorem seg_end {s : ByteArray} {a : Nat} : s.extract a s.size = bs (s.data.toList.drop a) := by
  rw [bs_cut, List.take_of_length_le (by rw [List.length_drop, Lib.size_eq]; exact Nat.le_refl _)]

theorem slice_run (s : ByteArray) (a p : Nat) (h1 : a ≤ p) (h2 : p ≤ s.size) (W : World) :
    (Instr.slice 9 (.string s) (some (.int .i64 (a : Int))) (some (.int .i64 (p : Int))) none).run Tryz.prog W = .ok (.string (bs (seg s a p))) W := by
  rw [run_slice_string _ 9 s .i64 .i64 (a : Int) (p : Int) Tryz.underlying9 (by omega) (by omega) (by omega), Int.toNat_natCast, Int.toNat_natCast, seg_cut]
theorem slice_from (s : ByteArray) (a : Nat) (h : a ≤ s.size) (W : World) :
    (Instr.slice 9 (.string s) (some (.int .i64 (a : Int))) none none).run Tryz.prog W = .ok (.string (bs (s.data.toList.drop a))) W := by
  rw [run_slice_string_from_if _ 9 s .i64 (a : Int) Tryz.underlying9, if_pos (by omega), Int.toNat_natCast, seg_end]

set_option maxHeartbeats 4000000 in
set_option maxRecDepth 100000 in
theorem split_any (s : ByteArray) (w : World) (hs : s.size ≤ 4000000) :
    Calls Tryz.prog 110 #[.string s] w fun e w' => e = .returned (subjV (sp s.data.toList)) ∧ Below w.heap.size w w' := by
  go_enter Tryz.func110, Tryz.ntmps110
  go_wp2
  go_loopw [4, 5] (fun v u wr => ∃ (pos n a : Nat) (p0 p1 : List UInt8), v = .int .i64 n ∧ u = .int .i64 a ∧ SpW w s pos p0 p1 wr ∧ Hid (St s.data.toList n a pos p0 p1)) (fun _ _ wr => s.size - wr.iterPos (w.heap.size + 2))
  case atStart => exact ⟨0, 0, 0, [], [], rfl, rfl, SpW.start w s, Lib.hid (St.start _)⟩
  case round =>
    obtain ⟨pos, n, a, p0, p1, rfl, rfl, hW, HS⟩ := hrel
    have hit := hW.iter
    have hpos0 := iterPos_of hit
    obtain ⟨hn2, hap, hpl⟩ := HS.out.le
    rw [← Lib.size_eq] at hpl
    by_cases hp : pos < s.size
    · have hnx : ∀ ty, (Instr.next (.pointer (some ⟨w.heap.size + 2, 0, none⟩)) true ty).run Tryz.prog wr = _ := fun ty => Lib.run_next_any_at wr (w.heap.size + 2) s pos ty hit hp
      have hp' : pos < s.data.toList.length := by rw [← Lib.size_eq]; exact hp
      have hwd := Gl.width s pos hp
      have hW2 := hW.next (p := pos + (Utf8.decode s pos).2)
      have hnext := HS.out.next hp'
      rw [← Gly.dec_at] at hnext
      obtain ⟨W1, hW1⟩ : ∃ W1, W1 = wr.iterAt (w.heap.size + 2) s (pos + (Utf8.decode s pos).2) := ⟨_, rfl⟩
      rw [← hW1] at hnx hW2
      clear hW1 hit hW
      rcases (show n = 0 ∨ n = 1 ∨ n = 2 by omega) with rfl | rfl | rfl
      · by_cases hr : (Utf8.decode s pos).1 = 58
        · have h58 : (((Utf8.decode s pos).1 : Nat) : Int) = 58 := by omega
          rw [h58] at hnx
          have hr' := hr
          rw [Gly.dec_at] at hr'
          obtain ⟨h1, h2⟩ := HS.out.colon hp' hr'
          rw [← Gly.dec_at] at h1
          rw [h1] at hW2
          have H2 := Lib.hid h2
          have hsl := slice_run s a pos hap hpl
          obtain ⟨⟨c0, f0⟩, -⟩ := hW2.cells
          clear h1 h2 hr hr' h58 hwd hnext
          go_wp2
          go_roundw
          case rel => exact ⟨pos + 1, 1, pos + 1, _, _, by go_num, by go_num, hW2.set0 rfl, H2⟩
          case measure => rw [iterPos_of (hW2.set0 (q := seg s a pos) rfl).iter, hpos0]; omega
        · have hb : ((((Utf8.decode s pos).1 : Nat) : Int) == 58) = false := by simp; omega
          have H2 := Lib.hid (hnext (fun _ => hr) (fun h => by omega))
          clear hr hnext
          go_wp2
          go_roundw
          case rel => exact ⟨_, 0, a, _, _, rfl, rfl, hW2, H2⟩
          case measure => rw [iterPos_of hW2.iter, hpos0]; omega
      · by_cases hr : (Utf8.decode s pos).1 = 35
        · have h58 : (((Utf8.decode s pos).1 : Nat) : Int) = 35 := by omega
          rw [h58] at hnx
          have hr' := hr
          rw [Gly.dec_at] at hr'
          obtain ⟨h1, h2⟩ := HS.out.hash hp' hr'
          rw [← Gly.dec_at] at h1
          rw [h1] at hW2
          have H2 := Lib.hid h2
          have hsl := slice_run s a pos hap hpl
          obtain ⟨-, ⟨c0, f0⟩, -⟩ := hW2.cells
          clear h1 h2 hr hr' h58 hwd hnext
          go_wp2
          go_roundw
          case rel => exact ⟨pos + 1, 2, pos + 1, _, _, by go_num, by go_num, hW2.set1 rfl, H2⟩
          case measure => rw [iterPos_of (hW2.set1 (q := seg s a pos) rfl).iter, hpos0]; omega
        · have hb : ((((Utf8.decode s pos).1 : Nat) : Int) == 35) = false := by simp; omega
          have H2 := Lib.hid (hnext (fun h => by omega) (fun _ => hr))
          clear hr hnext
          go_wp2
          go_roundw
          case rel => exact ⟨_, 1, a, _, _, rfl, rfl, hW2, H2⟩
          case measure => rw [iterPos_of hW2.iter, hpos0]; omega
      · have H2 := Lib.hid (hnext (fun h => by omega) (fun h => by omega))
        clear hnext
        go_wp2
        go_roundw
        case rel => exact ⟨_, 2, a, _, _, rfl, rfl, hW2, H2⟩
        case measure => rw [iterPos_of hW2.iter, hpos0]; omega
    · have hnx : ∀ ty, (Instr.next (.pointer (some ⟨w.heap.size + 2, 0, none⟩)) true ty).run Tryz.prog wr = _ := fun ty => Lib.run_next_end_at wr (w.heap.size + 2) s pos ty hit hp
      have hp' : ¬ pos < s.data.toList.length := by rw [← Lib.size_eq]; exact hp
      have hsl := slice_from s a (by omega)
      obtain ⟨⟨c0, f0⟩, ⟨c1, f1⟩, ⟨c2, f2⟩, ⟨r0, g0⟩, ⟨r1, g1⟩, ⟨r2, g2⟩⟩ := hW.cells
      clear hit
      rcases (show n = 0 ∨ n = 1 ∨ n = 2 by omega) with rfl | rfl | rfl
      · have HE := Lib.hid (HS.out.end0 hp')
        clear hp' hp
        go_wp2
        refine bodyPost_ret (v := subjV (sp s.data.toList)) ?_ rfl ⟨rfl, ?_⟩
        · rw [HE.out]
          simp [results, Tryz.results110, go_sem, subjV, bs, r0, r1, r2]
        · exact ((((hW.below).setCell (by simp) _).setCell (by simp) _).setCell (by simp) _).setCell (by simp) _
      · have HE := Lib.hid (HS.out.end1 hp')
        clear hp' hp
        go_wp2
        refine bodyPost_ret (v := subjV (sp s.data.toList)) ?_ rfl ⟨rfl, ?_⟩
        · rw [HE.out]
          simp [results, Tryz.results110, go_sem, subjV, bs, r0, r1, r2]
        · exact ((((hW.below).setCell (by simp) _).setCell (by simp) _).setCell (by simp) _).setCell (by simp) _
      · have HE := Lib.hid (HS.out.end2)
        clear hp' hp
        go_wp2
        refine bodyPost_ret (v := subjV (sp s.data.toList)) ?_ rfl ⟨rfl, ?_⟩
        · rw [HE.out]
          simp [results, Tryz.results110, go_sem, subjV, bs, r0, r1, r2]
        · exact ((((hW.below).setCell (by simp) _).setCell (by simp) _).setCell (by simp) _).setCell (by simp) _
end Who
end Go.Proofs.YtopncohhagebbaaGreatDoor

namespace Go.Proofs.YtopncohhagebbaaGreatDoor
open Go.RowKit
namespace Bond
open Who (bs bs_list seg cell_of frozen_of iterAt_other iter_old slice_run slice_from)

/-- The world in the loop: the text's iterator, the pieces. -/
structure SpB (w : World) (s : ByteArray) (pos : Nat) (p0 p1 : List UInt8) (x : World) : Prop where
  below : Below w.heap.size w x
  iter : x.heap[w.heap.size + 1]? = some (.stringIter s pos)
  row : x.heap[w.heap.size]? = some (.cells #[.string (bs p0), .string (bs p1), .string ⟨#[]⟩] 175 (0, 0))

theorem SpB.cells {w x : World} {s : ByteArray} {pos : Nat} {p0 p1 : List UInt8} (h : SpB w s pos p0 p1 x) :
    (x.cell? ⟨w.heap.size, 0, none⟩ = some (.string (bs p0)) ∧ x.frozen? ⟨w.heap.size, 0, none⟩ = false) ∧
    (x.cell? ⟨w.heap.size, 1, none⟩ = some (.string (bs p1)) ∧ x.frozen? ⟨w.heap.size, 1, none⟩ = false) ∧
    (x.cell? ⟨w.heap.size, 2, none⟩ = some (.string ⟨#[]⟩) ∧ x.frozen? ⟨w.heap.size, 2, none⟩ = false) :=
  ⟨⟨cell_of h.row rfl, frozen_of h.row⟩, ⟨cell_of h.row rfl, frozen_of h.row⟩, ⟨cell_of h.row rfl, frozen_of h.row⟩⟩
theorem SpB.next {w x : World} {s : ByteArray} {pos p : Nat} {p0 p1 : List UInt8} (h : SpB w s pos p0 p1 x) : SpB w s p p0 p1 (x.iterAt (w.heap.size + 1) s p) :=
  ⟨Lib.below_iterAt h.below (by omega) s p, Lib.iterAt_heap x (w.heap.size + 1) s pos p h.iter, (iterAt_other x _ _ s p (by omega)).trans h.row⟩
theorem SpB.set0 {w x : World} {s : ByteArray} {pos : Nat} {p0 p1 q : List UInt8} {v : ByteArray} (h : SpB w s pos p0 p1 x) (hv : v = bs q) : SpB w s pos q p1 (x.setCell ⟨w.heap.size, 0, none⟩ (.string v)) :=
  ⟨h.below.setCell (by simp) _, (heap_setCell_other _ _ _ _ (by simp)).trans h.iter, by rw [heap_setCell_same _ _ _ _ _ _ h.row, hv]; rfl⟩
theorem SpB.set1 {w x : World} {s : ByteArray} {pos : Nat} {p0 p1 q : List UInt8} {v : ByteArray} (h : SpB w s pos p0 p1 x) (hv : v = bs q) : SpB w s pos p0 q (x.setCell ⟨w.heap.size, 1, none⟩ (.string v)) :=
  ⟨h.below.setCell (by simp) _, (heap_setCell_other _ _ _ _ (by simp)).trans h.iter, by rw [heap_setCell_same _ _ _ _ _ _ h.row, hv]; rfl⟩
theorem SpB.start (w : World) (s : ByteArray) : SpB w s 0 [] [] ((w.alloc (.cells #[.string ⟨#[]⟩, .string ⟨#[]⟩, .string ⟨#[]⟩] 175)).iter s 0) := by
  refine ⟨((Below.refl _ _).alloc (Nat.le_refl _) _).alloc (by simp) _, ?_, ?_⟩
  · have h := World.iter_heap (w.alloc (.cells #[.string ⟨#[]⟩, .string ⟨#[]⟩, .string ⟨#[]⟩] 175)) s 0
    rw [World.size_alloc] at h
    exact h
  · rw [iter_old _ _ _ _ (by simp)]
    exact heap_alloc_new w _

/-- The pieces as an answer. -/
def spV (x : List UInt8 × List UInt8 × List UInt8) : Value := .tuple #[.string (bs x.1), .string (bs x.2.1), .string (bs x.2.2)]

set_option maxHeartbeats 4000000 in
set_option maxRecDepth 100000 in
theorem split_any (s : ByteArray) (w : World) (hs : s.size ≤ 4000000) :
    Calls Tryz.prog 68 #[.string s] w fun e w' => e = .returned (spV (sp s.data.toList)) ∧ Below w.heap.size w w' := by
  go_enter Tryz.func68, Tryz.ntmps68
  go_wp2
  go_loopw [6, 7] (fun v u wr => ∃ (pos n a : Nat) (p0 p1 : List UInt8), v = .int .i64 n ∧ u = .int .i64 a ∧ SpB w s pos p0 p1 wr ∧ Hid (St s.data.toList n a pos p0 p1)) (fun _ _ wr => s.size - wr.iterPos (w.heap.size + 1))
  case atStart => exact ⟨0, 0, 0, [], [], rfl, rfl, SpB.start w s, Lib.hid (St.start _)⟩
  case round =>
    obtain ⟨pos, n, a, p0, p1, rfl, rfl, hW, HS⟩ := hrel
    have hit := hW.iter
    have hpos0 := iterPos_of hit
    obtain ⟨hn2, hap, hpl⟩ := HS.out.le
    rw [← Lib.size_eq] at hpl
    by_cases hp : pos < s.size
    · have hnx : ∀ ty, (Instr.next (.pointer (some ⟨w.heap.size + 1, 0, none⟩)) true ty).run Tryz.prog wr = _ := fun ty => Lib.run_next_any_at wr (w.heap.size + 1) s pos ty hit hp
      have hp' : pos < s.data.toList.length := by rw [← Lib.size_eq]; exact hp
      have hwd := Gl.width s pos hp
      have hW2 := hW.next (p := pos + (Utf8.decode s pos).2)
      have hnext := HS.out.next hp'
      rw [← Gly.dec_at] at hnext
      obtain ⟨W1, hW1⟩ : ∃ W1, W1 = wr.iterAt (w.heap.size + 1) s (pos + (Utf8.decode s pos).2) := ⟨_, rfl⟩
      rw [← hW1] at hnx hW2
      clear hW1 hit hW
      rcases (show n = 0 ∨ n = 1 ∨ n = 2 by omega) with rfl | rfl | rfl
      · by_cases hr : (Utf8.decode s pos).1 = 35
        · have h35 : (((Utf8.decode s pos).1 : Nat) : Int) = 35 := by omega
          rw [h35] at hnx
          have hr' := hr
          rw [Gly.dec_at] at hr'
          obtain ⟨h1, h2⟩ := HS.out.hash hp' hr'
          rw [← Gly.dec_at] at h1
          rw [h1] at hW2
          have H2 := Lib.hid h2
          have hsl := slice_run s a pos hap hpl
          obtain ⟨⟨c0, f0⟩, -⟩ := hW2.cells
          clear h1 h2 hr hr' h35 hwd hnext
          go_wp2
          go_roundw
          case rel => exact ⟨pos + 1, 1, pos + 1, _, _, by go_num, by go_num, hW2.set0 rfl, H2⟩
          case measure => rw [iterPos_of (hW2.set0 (q := seg s a pos) rfl).iter, hpos0]; omega
        · have hb : ((((Utf8.decode s pos).1 : Nat) : Int) == 35) = false := by simp; omega
          have H2 := Lib.hid (hnext (fun _ => hr) (fun h => by omega))
          clear hr hnext
          go_wp2
          go_roundw
          case rel => exact ⟨_, 0, a, _, _, rfl, rfl, hW2, H2⟩
          case measure => rw [iterPos_of hW2.iter, hpos0]; omega
      · by_cases hr : (Utf8.decode s pos).1 = 64
        · have h35 : (((Utf8.decode s pos).1 : Nat) : Int) = 64 := by omega
          rw [h35] at hnx
          have hr' := hr
          rw [Gly.dec_at] at hr'
          obtain ⟨h1, h2⟩ := HS.out.at hp' hr'
          rw [← Gly.dec_at] at h1
          rw [h1] at hW2
          have H2 := Lib.hid h2
          have hsl := slice_run s a pos hap hpl
          obtain ⟨-, ⟨c0, f0⟩, -⟩ := hW2.cells
          clear h1 h2 hr hr' h35 hwd hnext
          go_wp2
          go_roundw
          case rel => exact ⟨pos + 1, 2, pos + 1, _, _, by go_num, by go_num, hW2.set1 rfl, H2⟩
          case measure => rw [iterPos_of (hW2.set1 (q := seg s a pos) rfl).iter, hpos0]; omega
        · have hb : ((((Utf8.decode s pos).1 : Nat) : Int) == 64) = false := by simp; omega
          have H2 := Lib.hid (hnext (fun h => by omega) (fun _ => hr))
          clear hr hnext
          go_wp2
          go_roundw
          case rel => exact ⟨_, 1, a, _, _, rfl, rfl, hW2, H2⟩
          case measure => rw [iterPos_of hW2.iter, hpos0]; omega
      · have H2 := Lib.hid (hnext (fun h => by omega) (fun h => by omega))
        clear hnext
        go_wp2
        go_roundw
        case rel => exact ⟨_, 2, a, _, _, rfl, rfl, hW2, H2⟩
        case measure => rw [iterPos_of hW2.iter, hpos0]; omega
    · have hnx : ∀ ty, (Instr.next (.pointer (some ⟨w.heap.size + 1, 0, none⟩)) true ty).run Tryz.prog wr = _ := fun ty => Lib.run_next_end_at wr (w.heap.size + 1) s pos ty hit hp
      have hp' : ¬ pos < s.data.toList.length := by rw [← Lib.size_eq]; exact hp
      have hsl := slice_from s a (by omega)
      obtain ⟨⟨c0, f0⟩, ⟨c1, f1⟩, ⟨c2, f2⟩⟩ := hW.cells
      clear hit
      rcases (show n = 0 ∨ n = 1 ∨ n = 2 by omega) with rfl | rfl | rfl
      · have HE := Lib.hid (HS.out.end0 hp')
        clear hp' hp
        go_wp2_with fail
        go_quiet (fail)
        go_wp2
        go_ret3
        exact ⟨by rw [HE.out]; rfl, below_drewN (hW.below.setCell (by simp) _) _⟩
      · have HE := Lib.hid (HS.out.end1 hp')
        clear hp' hp
        go_wp2_with fail
        go_quiet (fail)
        go_wp2
        go_ret3
        exact ⟨by rw [HE.out]; rfl, below_drewN (hW.below.setCell (by simp) _) _⟩
      · have HE := Lib.hid (HS.out.end2)
        clear hp' hp
        go_wp2_with fail
        go_quiet (fail)
        go_wp2
        go_ret3
        exact ⟨by rw [HE.out]; rfl, below_drewN (hW.below.setCell (by simp) _) _⟩
end Bond
end Go.Proofs.YtopncohhagebbaaGreatDoor

namespace Go.Proofs.YtopncohhagebbaaGreatDoor
open Go.RowKit
namespace Bond
open Who (bs bs_list bs_size bs_self eq_of_list Held textV text text_any ret_string wp_region_class quiet_of)

/-- A tuple's text. -/
def btV (t i r a b c : ByteArray) : ByteArray := bs (btext (t.data.toList, i.data.toList, r.data.toList) (a.data.toList, b.data.toList, c.data.toList))
end Bond
end Go.Proofs.YtopncohhagebbaaGreatDoor

namespace Go.Proofs.YtopncohhagebbaaGreatDoor
open Go.RowKit
namespace Who

/-- What Cut answers. -/
def cutV (c : UInt8) (l : List UInt8) : Value :=
  match cut c l with
  | some (a, b) => .tuple #[.string (bs a), .string (bs b), .bool true]
  | none => .tuple #[.string (bs l), .string ⟨#[]⟩, .bool false]

/-- What the document's Read answers. -/
def readRV : Option (List UInt8 × List UInt8 × List UInt8) → Value
  | some x => .tuple #[subjV x, .bool true]
  | none => .tuple #[.agg #[.string ⟨#[]⟩, .string ⟨#[]⟩, .string ⟨#[]⟩], .bool false]

end Who
end Go.Proofs.YtopncohhagebbaaGreatDoor

namespace Go.Proofs.YtopncohhagebbaaGreatDoor
open Go.RowKit
namespace Who

/-- What Read answers. -/
def readV : Option (List UInt8 × List UInt8 × List UInt8) → Value
  | some x => .tuple #[subjV x, .int .i64 0]
  | none => .tuple #[.agg #[.string ⟨#[]⟩, .string ⟨#[]⟩, .string ⟨#[]⟩], .int .i64 2]

set_option maxHeartbeats 4000000 in
theorem read_any (s : ByteArray) (w : World) (hs : s.size ≤ 4000000) :
    Calls Tryz.prog 70 #[.string s] w fun e w' => e = .returned (readV (read s.data.toList)) ∧ Below w.heap.size w w' := by
  have h1 := fun w => split_any s w hs
  have hl := sp_len s.data.toList
  rw [← Lib.size_eq] at hl
  have hr := read_sp s.data.toList
  generalize sp s.data.toList = x at *
  obtain ⟨t, i, r⟩ := x
  unfold subjV at h1
  dsimp only at hl hr h1
  have H1 := Lib.hid h1
  have h2 := fun w => subj_any (bs t) (bs i) (bs r) w (by rw [bs_size]; omega) (by rw [bs_size]; omega) (by rw [bs_size]; omega)
  simp only [bs_list, subj_eq] at h2
  by_cases hk : kind t i r = 0
  · rw [if_pos (Or.inl hk)] at hr
    have HR := Lib.hid hr
    rw [show (kind t i r != 0) = false by simp [hk]] at h2
    have H2 := Lib.hid h2
    clear h1 h2 hr hl hk
    go_enter Tryz.func70, Tryz.ntmps70
    go_wp2_with fail
    refine (H1.out _).mono ?_
    rintro e w1 ⟨rfl, b1⟩
    have I1 := Held.step b1 (Held.one3 w _ _ _ _)
    clear b1
    go_wp2_with fail
    refine (H2.out _).mono ?_
    rintro e w2 ⟨rfl, b2⟩
    have I2 := Held.step b2 (I1.more3 _ _ _ _)
    have q := I2.all
    simp only [List.forall_mem_cons] at q
    obtain ⟨⟨_, k0, f0⟩, ⟨_, k1, f1⟩, ⟨_, k2, f2⟩, ⟨_, k3, f3⟩, ⟨_, k4, f4⟩, ⟨_, k5, f5⟩, _⟩ := q
    clear b2
    go_wp2
    refine bodyPost_ret (v := readV none) (by simp [results, Tryz.results70, go_sem, readV, k3, k4, k5]) rfl ⟨?_, ?_⟩
    · rw [HR.out]
    · exact (((Held.below I2).setCell (by simp) _).setCell (by simp) _).setCell (by simp) _
  · rw [show (kind t i r != 0) = true by simp [hk]] at h2
    have H2 := Lib.hid h2
    have h3 := fun w => text_any (bs t) (bs i) (bs r) w (by rw [bs_size]; omega) (by rw [bs_size]; omega) (by rw [bs_size]; omega)
    have hv : (textV (bs t) (bs i) (bs r)).data.toList = text t i r := by rw [textV, bs_list, bs_list, bs_list, bs_list]
    generalize textV (bs t) (bs i) (bs r) = v at *
    have H3 := Lib.hid h3
    by_cases he : text t i r = s.data.toList
    · have hvs : v = s := eq_of_list (hv.trans he)
      subst hvs
      have H4 := Lib.hid (fun w => of_any (bs t) (bs i) (bs r) w (by rw [bs_size]; omega) (by rw [bs_size]; omega) (by rw [bs_size]; omega))
      rw [if_neg (by rw [not_or, Decidable.not_not]; exact ⟨hk, he⟩)] at hr
      have HR := Lib.hid hr
      clear h1 h2 h3 hr hl hk hv he
      go_enter Tryz.func70, Tryz.ntmps70
      go_wp2_with fail
      refine (H1.out _).mono ?_
      rintro e w1 ⟨rfl, b1⟩
      have I1 := Held.step b1 (Held.one3 w _ _ _ _)
      clear b1
      go_wp2_with fail
      refine (H2.out _).mono ?_
      rintro e w2 ⟨rfl, b2⟩
      have I2 := Held.step b2 (I1.more3 _ _ _ _)
      have q := I2.all
      simp only [List.forall_mem_cons] at q
      obtain ⟨⟨_, k0, f0⟩, ⟨_, k1, f1⟩, ⟨_, k2, f2⟩, _⟩ := q
      clear b2
      go_wp2_with fail
      refine (H3.out _).mono ?_
      rintro e w3 ⟨rfl, b3⟩
      have I3 := Held.step b3 I2
      have q := I3.all
      simp only [List.forall_mem_cons] at q
      clear b3 k0 k1 k2 f0 f1 f2
      obtain ⟨⟨_, k0, f0⟩, ⟨_, k1, f1⟩, ⟨_, k2, f2⟩, _⟩ := q
      go_wp2_with fail
      refine (H4.out _).mono ?_
      rintro e w4 ⟨rfl, b4⟩
      have I4 := Held.step b4 I3
      have q := I4.all
      simp only [List.forall_mem_cons] at q
      clear b4 k0 k1 k2 f0 f1 f2
      obtain ⟨⟨_, k0, f0⟩, ⟨_, k1, f1⟩, ⟨_, k2, f2⟩, ⟨_, k3, f3⟩, ⟨_, k4, f4⟩, ⟨_, k5, f5⟩, _⟩ := q
      go_wp2
      refine bodyPost_ret (v := readV (some (t, i, r))) (by simp [results, Tryz.results70, go_sem, readV, subjV, k3, k4, k5]) rfl ⟨?_, ?_⟩
      · rw [HR.out]
      · exact (((Held.below I4).setCell (by simp) _).setCell (by simp) _).setCell (by simp) _
    · have hne : (v.toList == s.toList) = false := by
        rw [beq_bytes, hv]; simpa using he
      rw [if_pos (Or.inr he)] at hr
      have HR := Lib.hid hr
      clear h1 h2 h3 hr hl hk hv he
      go_enter Tryz.func70, Tryz.ntmps70
      go_wp2_with fail
      refine (H1.out _).mono ?_
      rintro e w1 ⟨rfl, b1⟩
      have I1 := Held.step b1 (Held.one3 w _ _ _ _)
      clear b1
      go_wp2_with fail
      refine (H2.out _).mono ?_
      rintro e w2 ⟨rfl, b2⟩
      have I2 := Held.step b2 (I1.more3 _ _ _ _)
      have q := I2.all
      simp only [List.forall_mem_cons] at q
      obtain ⟨⟨_, k0, f0⟩, ⟨_, k1, f1⟩, ⟨_, k2, f2⟩, _⟩ := q
      clear b2
      go_wp2_with fail
      refine (H3.out _).mono ?_
      rintro e w3 ⟨rfl, b3⟩
      have I3 := Held.step b3 I2
      have q := I3.all
      simp only [List.forall_mem_cons] at q
      clear b3 k0 k1 k2 f0 f1 f2
      obtain ⟨⟨_, k0, f0⟩, ⟨_, k1, f1⟩, ⟨_, k2, f2⟩, ⟨_, k3, f3⟩, ⟨_, k4, f4⟩, ⟨_, k5, f5⟩, _⟩ := q
      go_wp2
      refine bodyPost_ret (v := readV none) (by simp [results, Tryz.results70, go_sem, readV, k3, k4, k5]) rfl ⟨?_, ?_⟩
      · rw [HR.out]
      · exact (((Held.below I3).setCell (by simp) _).setCell (by simp) _).setCell (by simp) _
end Who
end Go.Proofs.YtopncohhagebbaaGreatDoor

namespace Go.Proofs.YtopncohhagebbaaGreatDoor
open Go.RowKit
namespace Who

/-- What ReadObject answers. -/
def readOV : Option (List UInt8 × List UInt8) → Value
  | some x => .tuple #[.agg #[.string (bs x.1), .string (bs x.2)], .int .i64 0]
  | none => .tuple #[.agg #[.string ⟨#[]⟩, .string ⟨#[]⟩], .int .i64 2]

set_option maxHeartbeats 4000000 in
theorem readO_any (s : ByteArray) (w : World) (hs : s.size ≤ 4000000) :
    Calls Tryz.prog 69 #[.string s] w fun e w' => e = .returned (readOV (readO s.data.toList)) ∧ Below w.heap.size w w' := by
  have h1 := fun w => read_any s w hs
  have hr : readO s.data.toList = readO s.data.toList := rfl
  conv at hr => rhs; unfold readO
  cases hx : read s.data.toList with
  | none =>
    rw [hx] at hr h1
    have HR := Lib.hid hr
    unfold readV at h1
    have H1 := Lib.hid h1
    clear h1 hr hx
    go_enter Tryz.func69, Tryz.ntmps69
    go_wp2_with fail
    refine (H1.out _).mono ?_
    rintro e w1 ⟨rfl, b1⟩
    have I1 := Held.step b1 (Held.one2 w _ _ _)
    clear b1
    have I2 := I1.more3 55 (.string ⟨#[]⟩) (.string ⟨#[]⟩) (.string ⟨#[]⟩)
    have q := I2.all
    simp only [List.forall_mem_cons] at q
    obtain ⟨⟨_, k0, f0⟩, ⟨_, k1, f1⟩, ⟨_, k2, f2⟩, ⟨_, k3, f3⟩, ⟨_, k4, f4⟩, _⟩ := q
    go_wp2
    refine bodyPost_ret (v := readOV none) (by simp [results, Tryz.results69, go_sem, readOV, k3, k4]) rfl ⟨?_, ?_⟩
    · rw [HR.out]
    · exact ((Held.below I2).setCell (by simp) _).setCell (by simp) _
  | some x =>
    obtain ⟨t, i, r⟩ := x
    have hk := (read_text hx).2
    have hl := kind_len hk
    rw [hx] at hr h1
    unfold readV subjV at h1
    dsimp only at h1 hr
    have h2 := fun w => one_any (bs t) (bs i) (bs r) w (by rw [bs_size]; omega) (by rw [bs_size]; omega)
    simp only [bs_list, one_eq] at h2
    have H1 := Lib.hid h1
    by_cases hk1 : kind t i r = 1
    · rw [show (kind t i r == 1) = true by simp [hk1]] at h2
      rw [if_pos hk1] at hr
      have HR := Lib.hid hr
      have H2 := Lib.hid h2
      clear h1 h2 hr hx hk hl hk1
      go_enter Tryz.func69, Tryz.ntmps69
      go_wp2_with fail
      refine (H1.out _).mono ?_
      rintro e w1 ⟨rfl, b1⟩
      have I1 := Held.step b1 (Held.one2 w _ _ _)
      clear b1
      go_wp2_with fail
      refine (H2.out _).mono ?_
      rintro e w2 ⟨rfl, b2⟩
      have I2 := Held.step b2 (I1.more3 _ _ _ _)
      have q := I2.all
      simp only [List.forall_mem_cons] at q
      obtain ⟨⟨_, k0, f0⟩, ⟨_, k1, f1⟩, ⟨_, k2, f2⟩, ⟨_, k3, f3⟩, ⟨_, k4, f4⟩, _⟩ := q
      clear b2
      go_wp2
      refine bodyPost_ret (v := readOV (some (t, i))) (by simp [results, Tryz.results69, go_sem, readOV, k3, k4]) rfl ⟨?_, ?_⟩
      · rw [HR.out]
      · exact ((Held.below I2).setCell (by simp) _).setCell (by simp) _
    · rw [show (kind t i r == 1) = false by simp [hk1]] at h2
      rw [if_neg hk1] at hr
      have HR := Lib.hid hr
      have H2 := Lib.hid h2
      clear h1 h2 hr hx hk hl hk1
      go_enter Tryz.func69, Tryz.ntmps69
      go_wp2_with fail
      refine (H1.out _).mono ?_
      rintro e w1 ⟨rfl, b1⟩
      have I1 := Held.step b1 (Held.one2 w _ _ _)
      clear b1
      go_wp2_with fail
      refine (H2.out _).mono ?_
      rintro e w2 ⟨rfl, b2⟩
      have I2 := Held.step b2 (I1.more3 _ _ _ _)
      have q := I2.all
      simp only [List.forall_mem_cons] at q
      obtain ⟨⟨_, k0, f0⟩, ⟨_, k1, f1⟩, ⟨_, k2, f2⟩, ⟨_, k3, f3⟩, ⟨_, k4, f4⟩, _⟩ := q
      clear b2
      go_wp2
      refine bodyPost_ret (v := readOV none) (by simp [results, Tryz.results69, go_sem, readOV, k3, k4]) rfl ⟨?_, ?_⟩
      · rw [HR.out]
      · exact ((Held.below I2).setCell (by simp) _).setCell (by simp) _
end Who
end Go.Proofs.YtopncohhagebbaaGreatDoor

namespace Go.Proofs.YtopncohhagebbaaGreatDoor
open Go.RowKit
namespace Bond
open Who (bs bs_list bs_size bs_self Held read readO readV readOV readO_any read_any clone_any kind_len read_text)

/-- What Read answers. -/
def prV : Option (L3 × L3) → Value
  | some (x, y) => .tuple #[tupV (bs x.1) (bs x.2.1) (bs x.2.2) (bs y.1) (bs y.2.1) (bs y.2.2), .int .i64 0]
  | none => .tuple #[tupV ⟨#[]⟩ ⟨#[]⟩ ⟨#[]⟩ ⟨#[]⟩ ⟨#[]⟩ ⟨#[]⟩, .int .i64 2]

theorem readV_parts (x : Option (List UInt8 × List UInt8 × List UInt8)) : ∃ a b c z, readV x = .tuple #[.agg #[.string a, .string b, .string c], .int .i64 z] := by
  cases x with
  | none => exact ⟨_, _, _, _, rfl⟩
  | some x => exact ⟨_, _, _, _, rfl⟩

theorem pr_eq {l o r s : List UInt8} (h : sp l = (o, r, s)) : pr l = match readO o, read s with
    | some q, some y => if Gly.nameB r then some ((q.1, q.2, r), y) else none
    | _, _ => none := by simp only [pr, h]; rfl

set_option maxHeartbeats 4000000 in
theorem bread_any (s : ByteArray) (w : World) (hs : s.size ≤ 4000000) :
    Calls Tryz.prog 40 #[.string s] w fun e w' => e = .returned (prV (pr s.data.toList)) ∧ Below w.heap.size w w' := by
  have h1 := fun w => split_any s w hs
  have hl := sp_len s.data.toList
  rw [← Lib.size_eq] at hl
  obtain ⟨o, r, u, hsp⟩ : ∃ o r u, sp s.data.toList = (o, r, u) := ⟨_, _, _, rfl⟩
  have hpr := pr_eq hsp
  rw [hsp] at h1 hl
  unfold spV at h1
  dsimp only at h1 hl
  have H1 := Lib.hid h1
  have h2 := fun w => readO_any (bs o) w (by rw [bs_size]; omega)
  have h3 := fun w => read_any (bs u) w (by rw [bs_size]; omega)
  rw [bs_list] at h2 h3
  clear h1 hsp
  cases ho : readO o with
  | none =>
    rw [ho] at h2 hpr
    obtain ⟨a, b, c, z, hv⟩ := readV_parts (read u)
    rw [hv] at h3
    unfold readOV at h2
    have H2 := Lib.hid h2
    have H3 := Lib.hid h3
    have HP := Lib.hid hpr
    clear h2 h3 hpr hv ho hl
    go_enter Tryz.func40, Tryz.ntmps40
    go_wp2_with fail
    refine (H1.out _).mono ?_
    rintro e w1 ⟨rfl, b1⟩
    have I1 := Held.step b1 (Held.one6 w _ _ _ _ _ _ _)
    clear b1
    go_wp2_with fail
    refine (H2.out _).mono ?_
    rintro e w2 ⟨rfl, b2⟩
    have I2 := (Held.step b2 I1).more2 63 (.string ⟨#[]⟩) (.string ⟨#[]⟩)
    clear b2
    go_wp2_with fail
    refine (H3.out _).mono ?_
    rintro e w3 ⟨rfl, b3⟩
    have I3 := (Held.step b3 I2).more3 55 (.string a) (.string b) (.string c)
    have q := I3.all
    simp only [List.forall_mem_cons] at q
    clear b3
    obtain ⟨-, -, -, -, -, ⟨-, k0, f0⟩, ⟨-, k1, f1⟩, ⟨-, k2, f2⟩, ⟨-, k3, f3⟩, ⟨-, k4, f4⟩, ⟨-, k5, f5⟩, -⟩ := q
    go_wp2
    refine bodyPost_ret (v := prV none) (by simp [results, Tryz.results40, go_sem, prV, tupV, k0, k1, k2, k3, k4, k5]) rfl ⟨?_, ?_⟩
    · rw [HP.out]
    · exact ((((((Held.below I3).setCell (by simp) _).setCell (by simp) _).setCell (by simp) _).setCell (by simp) _).setCell (by simp) _).setCell (by simp) _
  | some q =>
    rw [ho] at h2 hpr
    unfold readOV at h2
    dsimp only at h2
    have H2 := Lib.hid h2
    clear h2 ho
    cases hu : read u with
    | none =>
      rw [hu] at h3 hpr
      unfold readV at h3
      have H3 := Lib.hid h3
      have HP := Lib.hid hpr
      clear h3 hpr hu hl
      go_enter Tryz.func40, Tryz.ntmps40
      go_wp2_with fail
      refine (H1.out _).mono ?_
      rintro e w1 ⟨rfl, b1⟩
      have I1 := Held.step b1 (Held.one6 w _ _ _ _ _ _ _)
      clear b1
      go_wp2_with fail
      refine (H2.out _).mono ?_
      rintro e w2 ⟨rfl, b2⟩
      have I2 := (Held.step b2 I1).more2 63 (.string (bs q.1)) (.string (bs q.2))
      clear b2
      go_wp2_with fail
      refine (H3.out _).mono ?_
      rintro e w3 ⟨rfl, b3⟩
      have I3 := (Held.step b3 I2).more3 55 (.string ⟨#[]⟩) (.string ⟨#[]⟩) (.string ⟨#[]⟩)
      have q := I3.all
      simp only [List.forall_mem_cons] at q
      clear b3
      obtain ⟨-, -, -, -, -, ⟨-, k0, f0⟩, ⟨-, k1, f1⟩, ⟨-, k2, f2⟩, ⟨-, k3, f3⟩, ⟨-, k4, f4⟩, ⟨-, k5, f5⟩, -⟩ := q
      go_wp2
      refine bodyPost_ret (v := prV none) (by simp [results, Tryz.results40, go_sem, prV, tupV, k0, k1, k2, k3, k4, k5]) rfl ⟨?_, ?_⟩
      · rw [HP.out]
      · exact ((((((Held.below I3).setCell (by simp) _).setCell (by simp) _).setCell (by simp) _).setCell (by simp) _).setCell (by simp) _).setCell (by simp) _
    | some y =>
      have hln := kind_len (read_text (t := y.1) (i := y.2.1) (r := y.2.2) hu).2
      rw [hu] at h3 hpr
      unfold readV Who.subjV at h3
      dsimp only at h3 hpr
      have H3 := Lib.hid h3
      have h4 := fun w => Gl.name_any (bs r) w (by rw [bs_size]; omega)
      rw [bs_list] at h4
      have HC := Lib.hid (fun w => clone_any (bs r) w (by rw [bs_size]; omega))
      clear h3 hu hl hln
      cases hn : Gly.nameB r with
      | false =>
        rw [hn] at h4 hpr
        have H4 := Lib.hid h4
        have HP := Lib.hid (hpr.trans (if_neg (by decide)))
        clear h4 hpr hn
        go_enter Tryz.func40, Tryz.ntmps40
        go_wp2_with fail
        refine (H1.out _).mono ?_
        rintro e w1 ⟨rfl, b1⟩
        have I1 := Held.step b1 (Held.one6 w _ _ _ _ _ _ _)
        clear b1
        go_wp2_with fail
        refine (H2.out _).mono ?_
        rintro e w2 ⟨rfl, b2⟩
        have I2 := (Held.step b2 I1).more2 63 (.string (bs q.1)) (.string (bs q.2))
        clear b2
        go_wp2_with fail
        refine (H3.out _).mono ?_
        rintro e w3 ⟨rfl, b3⟩
        have I3 := (Held.step b3 I2).more3 55 (.string (bs y.1)) (.string (bs y.2.1)) (.string (bs y.2.2))
        clear b3
        go_wp2_with fail
        refine (H4.out _).mono ?_
        rintro e w4 ⟨rfl, b4⟩
        have I4 := Held.step b4 I3
        have q := I4.all
        simp only [List.forall_mem_cons] at q
        clear b4
        obtain ⟨-, -, -, -, -, ⟨-, k0, f0⟩, ⟨-, k1, f1⟩, ⟨-, k2, f2⟩, ⟨-, k3, f3⟩, ⟨-, k4, f4⟩, ⟨-, k5, f5⟩, -⟩ := q
        go_wp2
        refine bodyPost_ret (v := prV none) (by simp [results, Tryz.results40, go_sem, prV, tupV, k0, k1, k2, k3, k4, k5]) rfl ⟨?_, ?_⟩
        · rw [HP.out]
        · exact ((((((Held.below I4).setCell (by simp) _).setCell (by simp) _).setCell (by simp) _).setCell (by simp) _).setCell (by simp) _).setCell (by simp) _
      | true =>
        rw [hn] at h4 hpr
        have H4 := Lib.hid h4
        have HP := Lib.hid (hpr.trans (if_pos rfl))
        clear h4 hpr hn
        go_enter Tryz.func40, Tryz.ntmps40
        go_wp2_with fail
        refine (H1.out _).mono ?_
        rintro e w1 ⟨rfl, b1⟩
        have I1 := Held.step b1 (Held.one6 w _ _ _ _ _ _ _)
        clear b1
        go_wp2_with fail
        refine (H2.out _).mono ?_
        rintro e w2 ⟨rfl, b2⟩
        have I2 := (Held.step b2 I1).more2 63 (.string (bs q.1)) (.string (bs q.2))
        have z2 := ((Held.step b2 I1).all _ (List.mem_cons_self ..)).1
        clear b2
        go_wp2_with fail
        refine (H3.out _).mono ?_
        rintro e w3 ⟨rfl, b3⟩
        have I3 := (Held.step b3 I2).more3 55 (.string (bs y.1)) (.string (bs y.2.1)) (.string (bs y.2.2))
        have z3 := (Held.step b3 I2).all _ (List.mem_cons_of_mem _ (List.mem_cons_of_mem _ (List.mem_cons_self ..)))
        have z3 := z3.1
        clear b3
        go_wp2_with fail
        refine (H4.out _).mono ?_
        rintro e w4 ⟨rfl, b4⟩
        have I4 := Held.step b4 I3
        clear b4
        go_wp2_with fail
        generalize w2.heap.size = B2 at *
        generalize w3.heap.size = B3 at *
        have n2 : ¬ B2 = w.heap.size := by omega
        have n3 : ¬ B3 = w.heap.size := by omega
        have m2 : ¬ w.heap.size = B2 := by omega
        have m3 : ¬ w.heap.size = B3 := by omega
        clear I1 I2 I3 z2 z3 H1 H2 H3 H4
        have I0 := I4.drew
        have q := I0.all
        simp only [List.forall_mem_cons] at q
        obtain ⟨⟨-, s0, -⟩, ⟨-, s1, -⟩, ⟨-, s2, -⟩, ⟨-, o0, -⟩, ⟨-, o1, -⟩, ⟨-, k0, f0⟩, ⟨-, k1, f1⟩, ⟨-, k2, f2⟩, ⟨-, k3, f3⟩, ⟨-, k4, f4⟩, ⟨-, k5, f5⟩, -⟩ := q
        clear I4
        go_region_held3 (fun x => x.cell? ⟨B3, 0, none⟩ = some (.string (bs y.1)) ∧ x.cell? ⟨B3, 1, none⟩ = some (.string (bs y.2.1)) ∧ x.cell? ⟨B3, 2, none⟩ = some (.string (bs y.2.2)) ∧ x.cell? ⟨B2, 0, none⟩ = some (.string (bs q.1)) ∧ x.cell? ⟨B2, 1, none⟩ = some (.string (bs q.2)) ∧ Below w.heap.size w x)
          ((refine ⟨?_, ?_, ?_, ?_, ?_, ?_⟩) <;> (first | (with_reducible assumption) | ((repeat (refine Below.setCell ?_ (by simp) _)); (with_reducible exact Held.below (by assumption))) | go_keep))
          (first | (go_at_call 64; (with_reducible refine (HC.out _).mono ?_); rintro e w5 ⟨rfl, b5⟩; have I := Held.step b5 (by assumption); have q := I.all; simp only [List.forall_mem_cons] at q; obtain ⟨⟨-, s0, -⟩, ⟨-, s1, -⟩, ⟨-, s2, -⟩, ⟨-, o0, -⟩, ⟨-, o1, -⟩, ⟨-, k0, f0⟩, ⟨-, k1, f1⟩, ⟨-, k2, f2⟩, ⟨-, k3, f3⟩, ⟨-, k4, f4⟩, ⟨-, k5, f5⟩, -⟩ := q))
        go_wp2
        refine bodyPost_ret (v := prV (some ((q.1, q.2, r), y))) (by simp [results, Tryz.results40, go_sem, prV, tupV, k0, k1, k2, k3, k4, k5]) rfl ⟨?_, ?_⟩
        · rw [HP.out]
        · exact ((((((Held.below I).setCell (by simp) _).setCell (by simp) _).setCell (by simp) _).setCell (by simp) _).setCell (by simp) _).setCell (by simp) _
end Bond
end Go.Proofs.YtopncohhagebbaaGreatDoor
