/-
  Layer 12: the program's tray: Clone, keeping, New.
-/
import Derived.Test.YtdodmjcbjknneaaTaGet
namespace Go.Proofs.Ytdodmjcbjknneaa
set_option maxRecDepth 100000
open Go.RowKit
namespace Ta
open Knot (Turns NewRow)
open Tr (IsElem append_rows walk_rows own_turn own_below own_slice own_open addp)

theorem own_low {w : World} {B c m : Nat} {e : TypeId} {v : Value} {xs : List Value} (h : w.ownsRow B e c v m xs) : w.ownsRow 0 e c v m xs := by
  refine ⟨h.1, ?_⟩
  rcases h.2 with h0 | ⟨g, cap, cur, hv, -, r⟩
  · exact .inl h0
  · exact .inr ⟨g, cap, cur, hv, Nat.zero_le _, r⟩
theorem empty_se (w : World) : (w.alloc (.cells #[] tSe)).ownsRow w.heap.size tSe 128 (.slice (some ⟨w.heap.size, 0, none⟩) 0 0) 0 [] := World.ownsRow_made w #[] 0 (Nat.le_refl _) (by unfold maxLen; omega) rfl
section
variable {w : World} {n : Nat}
set_option maxHeartbeats 4000000 in
set_option maxRecDepth 100000 in
theorem clone_any (g cap : Nat) (xs : List Value) (h : w.ownsRow 0 tSe 128 (.slice (some ⟨g, 0, none⟩) n cap) n xs) (h1 : ∀ u ∈ xs, u.oneCell' = true) (hn : 4 ≤ n ∧ n ≤ 4096) :
    Calls Try.prog 41 #[.slice (some ⟨g, 0, none⟩) n cap] w fun e x => ∃ g' c', e = .returned (.slice (some ⟨g', 0, none⟩) n c') ∧ x.ownsRow w.heap.size tSe 128 (.slice (some ⟨g', 0, none⟩) n c') n xs ∧ Below w.heap.size w x := by
  obtain ⟨i0, b0, T, hb0⟩ := secElem
  have hc := h.cells (g := g) rfl
  have hlt := (h.lt g rfl).2
  have he : ∀ W : World, (binOp .eql tSs (.slice (some ⟨g, 0, none⟩) n cap) (.slice none 0 0)).run Try.prog W = .ok (.bool false) W := fun _ => rfl
  have H := Lib.hid (And.intro h (And.intro hn hb0))
  clear h hb0 hn
  go_enter Try.func41, Try.ntmps41
  go_wp2_with (at_builtin; refine walk_rows T rfl _ _ rfl rfl rfl (empty_se w) (by simp) (m := n) (news := xs) H.out.1.1 (fun j u hj => (((Below.refl w.heap.size w).alloc (Nat.le_refl _) _).cell (by rw [addp]; exact hlt)).trans (hc j u hj)) h1 (by have := H.out.2.1; omega) (Nat.le_trans (Nat.mul_le_mul_left _ H.out.2.2) (by have := H.out.2.1; omega)) ?_)
  intro v1 w1 o1 g1 n1
  obtain ⟨a1, p1, rfl⟩ := own_slice o1
  have b1 := ((Below.refl w.heap.size w).alloc (Nat.le_refl _) (.cells #[] tSe)).grown g1 (by simp) (fun k hk => by have : w.heap.size = k := Option.some.inj hk; omega)
  obtain ⟨g', rfl⟩ : ∃ g', a1 = some ⟨g', 0, none⟩ := by
    rcases o1.2 with ⟨-, h0⟩ | ⟨g', cap', cur, hv, -⟩
    · have := H.out.2.1; omega
    · exact ⟨g', by injection hv⟩
  have HO := Lib.hid (And.intro o1 b1)
  clear o1 b1 g1 n1
  go_wp2
  go_ret
  exact ⟨_, _, rfl, HO.out.1, HO.out.2⟩

/-- A new tray out of kept sectors. -/
def fromK (l : List (Int × List UInt8)) : Tray (List UInt8) := ⟨l, [], -1, false⟩
set_option maxHeartbeats 4000000 in
set_option maxRecDepth 100000 in
theorem keeping_any (gk ck : Nat) (l : List (Int × List UInt8)) (h : w.ownsRow 0 tSe 128 (.slice (some ⟨gk, 0, none⟩) n ck) n (flat (disk n l))) (hl : ∀ q ∈ l, q.2.length = 128) (hn : 4 ≤ n ∧ n ≤ 4096) :
    Calls Try.prog 33 #[.slice (some ⟨gk, 0, none⟩) n ck] w fun e x => ∃ p, e = .returned (ptr p) ∧ w.heap.size ≤ p ∧ Below w.heap.size w x ∧ IsT x p n (fromK l) (fun k => k = gk ∨ Made w x k) := by
  have HC := Lib.hid (clone_any gk ck _ h (one_flat _) hn)
  have hlt := (h.lt gk rfl).2
  have H := Lib.hid (And.intro h (And.intro hl (And.intro hn hlt)))
  clear h hl hn hlt
  go_enter Try.func33, Try.ntmps33
  go_wp2_with fail
  refine HC.out.mono ?_
  rintro e x ⟨g', c', rfl, o1, b1⟩
  obtain ⟨h, hl, hn, hlt⟩ := H.out
  have hk := own_below h b1
  have hlo := o1.lt g' rfl
  have HO := Lib.hid (And.intro o1 (And.intro b1 (And.intro hk hlo)))
  clear o1 b1 hk hlo h hl hn hlt
  have key : ∀ X : World, X = x.alloc (.cells (boxC n (fromK l) g' c' gk ck (.slice none 0 0)) tTy) → w.heap.size ≤ x.heap.size ∧ Below w.heap.size w X ∧ IsT X x.heap.size n (fromK l) (fun k => k = gk ∨ Made w X k) := by
    intro X hX
    obtain ⟨o1, b1, hk, h1, h2⟩ := HO.out
    obtain ⟨h, hl, hn, hlt⟩ := H.out
    have ha : Below x.heap.size x X := by rw [hX]; exact (Below.refl _ _).alloc (Nat.le_refl _) _
    have hs : X.heap.size = x.heap.size + 1 := by rw [hX]; simp
    have hbox : X.heap[x.heap.size]? = some (.cells (boxC n (fromK l) g' c' gk ck (.slice none 0 0)) tTy (0, 0)) := by rw [hX]; exact heap_alloc_new x _
    clear hX
    have hz := b1.size
    refine ⟨hz, b1.trans (ha.mono hz), hn, ⟨by show (-1 : Int) ≤ -1; omega, by show (-1 : Int) ≤ 1099511627776; omega⟩, hl, fun q hq => by simp [fromK] at hq, fun k hk => ?_, .inr ⟨hz, by omega⟩, g', c', gk, ck, .slice none 0 0, ?_⟩
    · rcases hk with rfl | hk
      · omega
      · exact hk.2
    · refine ⟨hbox, ?_, own_below hk ha, World.ownsRow_nil _ _ _ _, .inr ⟨h1, by omega⟩, .inl rfl, (fun k hk => nomatch hk), by omega⟩
      show X.ownsRow 0 tSe 128 _ n (flat (disk n (l ++ [])))
      rw [List.append_nil]
      exact own_below (own_low o1) ha
  have HK := Lib.hid key
  clear key HO
  go_wp2_with fail
  go_ret
  exact ⟨x.heap.size, rfl, HK.out _ rfl⟩

theorem nul_cells : Lib.byteCells nul = List.replicate 128 (.int .u8 0) := by simp [Lib.byteCells, nul]
theorem flat_nul (n : Nat) : flat (List.replicate n nul) = List.replicate (n * 128) (.int .u8 0) := by
  refine List.eq_replicate_iff.2 ⟨?_, fun u hu => ?_⟩
  · rw [flat_len fun b hb => by rw [(List.mem_replicate.1 hb).2]; rfl, List.length_replicate]
  · obtain ⟨b, hb, hu⟩ := List.mem_flatMap.1 hu
    rw [(List.mem_replicate.1 hb).2, nul_cells] at hu
    exact (List.mem_replicate.1 hu).2
theorem made_nul (n : Nat) : (madeCells (sec nul) (n * 128)).toList = flat (disk n []) := by
  rw [disk_nul, flat_nul]
  refine List.eq_replicate_iff.2 ⟨by simp [size_madeCells], fun u hu => ?_⟩
  simp only [madeCells, Array.toList_map, List.mem_map] at hu
  obtain ⟨i, -, rfl⟩ := hu
  have hs : (sec nul).size = 128 := rfl
  have hi : i % (sec nul).size < (sec nul).size := by rw [hs]; omega
  rw [getElem!_pos (sec nul) _ hi]
  have : (sec nul)[i % (sec nul).size] ∈ sec nul := Array.getElem_mem hi
  simp only [sec, nul_cells, List.mem_toArray] at this
  exact (List.mem_replicate.1 this).2
end

set_option maxHeartbeats 4000000 in
set_option maxRecDepth 100000 in
theorem new_any (n : Nat) (hn : 4 ≤ n ∧ n ≤ 4096) (w : World) : Calls Try.prog 12 #[.int .i64 n] w fun e x => ∃ p, e = .returned (.tuple #[ptr p, .int .i64 0]) ∧ Below w.heap.size w x ∧ IsT x p n Tray.fresh (Made w x) := by
  obtain ⟨i0, b0, T, hb0⟩ := secElem
  have hmk := run_make (P := Try.prog) w tSs tSe i0 (.agg (sec nul)) T.under T.info T.zero .i64 .i64 (n : Int) (n : Int) (by omega) (Int.le_refl _) (by
    rw [T.bytes]
    have h1 : (b0 : Int) ≤ 128 := by omega
    have h2 : (b0 : Int) * n ≤ 128 * n := Int.mul_le_mul_of_nonneg_right h1 (by omega)
    omega) (by omega)
  rw [T.size, Int.toNat_natCast] at hmk
  change _ = Result.ok _ (w.alloc (.cells (madeCells (sec nul) (n * 128)) tSe)) at hmk
  have hrow : (w.alloc (.cells (madeCells (sec nul) (n * 128)) tSe)).ownsRow w.heap.size tSe 128 (.slice (some ⟨w.heap.size, 0, none⟩) n n) n (flat (disk n [])) := by
    rw [← made_nul]
    exact World.ownsRow_lit w _ n (Nat.le_refl _) (by unfold maxLen; omega) (size_madeCells _ _)
  have HK := Lib.hid (keeping_any w.heap.size n [] (own_low hrow) (fun q hq => by simp at hq) hn)
  have HB := Lib.hid (show Below w.heap.size w (w.alloc (.cells (madeCells (sec nul) (n * 128)) tSe)) from (Below.refl _ _).alloc (Nat.le_refl _) _)
  have h1 : ¬ ((n : Int) < 4) := by omega
  have h2 : ¬ ((4096 : Int) < n) := by omega
  clear hrow hb0 T hn
  generalize hW : w.alloc (.cells (madeCells (sec nul) (n * 128)) tSe) = W at *
  have HW := Lib.hid (show W.heap.size = w.heap.size + 1 by rw [← hW]; simp)
  clear hW
  go_enter Try.func12, Try.ntmps12
  go_wp2_with fail
  refine HK.out.mono ?_
  rintro e x ⟨p, rfl, hp, hb, ht⟩
  have HT := Lib.hid (And.intro hp (And.intro hb ht))
  clear hp hb ht
  go_wp2_with fail
  go_ret2
  obtain ⟨hp, hb, ht⟩ := HT.out
  have hs := HW.out
  have hz := hb.size
  refine ⟨p, rfl, HB.out.trans (hb.mono (by omega)), ht.mono (fun k hk => ?_) fun k hk => hk.2⟩
  rcases hk with rfl | hk
  · exact ⟨Nat.le_refl _, by omega⟩
  · exact ⟨by have := hk.1; omega, hk.2⟩
set_option maxHeartbeats 4000000 in
set_option maxRecDepth 100000 in
theorem new_none (n : Int) (hn : ¬ (4 ≤ n ∧ n ≤ 4096)) (w : World) : Calls Try.prog 12 #[.int .i64 n] w fun e x => e = .returned (.tuple #[.pointer none, .int .i64 1]) ∧ x = w := by
  by_cases h1 : n < 4
  · go_enter Try.func12, Try.ntmps12
    go_wp2_with fail
    go_ret2
    exact ⟨rfl, rfl⟩
  · have h2 : 4096 < n := by omega
    go_enter Try.func12, Try.ntmps12
    go_wp2_with fail
    go_ret2
    exact ⟨rfl, rfl⟩
end Ta
end Go.Proofs.Ytdodmjcbjknneaa
