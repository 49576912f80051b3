/-
  Layer 12: the program's tray: Read.
-/
import Derived.Test.YtdodmjcbjknneaaTaStep
namespace Go.Proofs.Ytdodmjcbjknneaa
set_option maxRecDepth 100000
open Go.RowKit
namespace Ta
open Knot (Turns NewRow)
open Tr (IsElem append_rows own_turn own_below own_slice own_open addp)

theorem store_se (W : World) (b : Nat) (c c' : List UInt8) (hb : b = W.heap.size) (hc : c.length = 128) (hc' : c'.length = 128) : (storeCells ⟨b, 0, none⟩ (sec c').toList 0).run Try.prog (W.alloc (.cells (sec c) tSe)) = .ok () (W.alloc (.cells (sec c') tSe)) := by
  subst hb
  exact run_storeCells_new W tSe _ _ (by rw [sec_size hc']; exact info_se) (by rw [sec_size hc, sec_size hc']) (sec_one _)
theorem index_se (g n cap : Nat) (k : Int) (h0 : 0 ≤ k) (h1 : k < n) (W : World) : (Instr.indexAt tSs (.slice (some ⟨g, 0, none⟩) n cap) (.int .i64 k)).run Try.prog W = .ok (.pointer (some ⟨g, k.toNat * 128, none⟩)) W := by
  have hz : ∀ w, (sizeOf (Try.prog.elem tSs)).run Try.prog w = .ok 128 w := fun w => by kernel_rfl
  rw [run_indexAt_slice W _ _ _ _ _ _ Try.underlying77, if_pos ⟨h0, by omega⟩, hz]
  simp only [Result.andThen_ok, Addr.add_lit, Nat.zero_add]
section
variable {w : World} {p n : Nat} {t : Tray (List UInt8)} {F : Nat → Prop}
/-- A sector out of a row of sectors. -/
theorem sec_lies {g cap : Nat} {l : List (Int × List UInt8)} (h : w.ownsRow 0 tSe 128 (.slice (some ⟨g, 0, none⟩) n cap) n (flat (disk n l))) (hl : ∀ q ∈ l, q.2.length = 128) {k : Int} (h0 : 0 ≤ k) (h1 : k < n) : w.rangeAt g (k.toNat * 128) (Lib.byteCells (last l k nul)) := fun j v hj => by
  have hlen := last_len hl k (z := nul) rfl
  have hj' : j < 128 := by
    have := (List.getElem?_eq_some_iff.1 hj).1
    rw [Lib.byteCells_length, hlen] at this
    exact this
  have hk : k.toNat < n := by omega
  rw [h.cellAt (k.toNat * 128 + j) (by omega), flat_at (disk_all hl) (by rw [disk_len]; exact hk) hj', disk_at]
  rw [show ((k.toNat : Nat) : Int) = k by omega]
  exact hj

set_option maxHeartbeats 4000000 in
set_option maxRecDepth 100000 in
theorem tread_any (k : Int) (h : IsT w p n t F) (h0 : 0 ≤ k) (h1 : k < n) : Calls Try.prog 28 #[ptr p, .int .i64 k] w fun e x =>
    e = .returned (.tuple #[.slice (some ⟨w.heap.size, 0, none⟩) 128 128, .int .i64 0]) ∧ x.heap[w.heap.size]? = some (.cells (sec (t.read nul k)) tSe (0, 0)) ∧ Below w.heap.size w x := by
  obtain ⟨gn, cn, gk, ck, cv, hl⟩ := h.mem
  obtain ⟨c0, -⟩ := boxC_cells hl.box
  have hc : ∀ q ∈ t.kept ++ t.cache, q.2.length = 128 := fun q hq => (List.mem_append.1 hq).elim (h.lenk q) fun hq => (h.lenc q hq).1
  have HR := Lib.hid (sec_lies hl.now hc h0 h1)
  have h8 := last_len hc k (z := nul) rfl
  have HH := Lib.hid (has_any k h)
  have hz := zero_se
  have hs0 : (sec nul).size = 128 := rfl
  have hs8 := sec_size h8
  have hix := index_se gn n cn k h0 h1
  have hst := store_se w w.heap.size nul (last (t.kept ++ t.cache) k nul) rfl rfl h8
  have H8 := Lib.hid h8
  have HD := Lib.hid (show decide (0 ≤ k ∧ k < n) = true by simp [h0, h1])
  unfold Tray.read
  have HX := Lib.hid (heap_alloc_new w (.cells (sec (last (t.kept ++ t.cache) k nul)) tSe))
  clear h hl hc h8
  go_enter Try.func28, Try.ntmps28
  go_wp2_with fail
  refine HH.out.mono ?_
  rintro e x ⟨rfl, rfl⟩
  rw [HD.out]
  go_wp2_with fail
  refine wp_load_mid tSe (.tmp 16) rfl gn (k.toNat * 128) rfl (Lib.byteCells (last (t.kept ++ t.cache) k nul)) _ HR.out Try.underlying92 rfl (by rw [Lib.byteCells_length, H8.out]; exact info_se) ?_
  rw [show (Lib.byteCells (last (t.kept ++ t.cache) k nul)).toArray = sec (last (t.kept ++ t.cache) k nul) from rfl]
  go_wp2_with fail
  go_ret2
  exact ⟨rfl, HX.out, (Below.refl _ _).alloc (Nat.le_refl _) _⟩
set_option maxHeartbeats 4000000 in
set_option maxRecDepth 100000 in
theorem tread_none (k : Int) (h : IsT w p n t F) (h1 : ¬ (0 ≤ k ∧ k < n)) : Calls Try.prog 28 #[ptr p, .int .i64 k] w fun e x =>
    e = .returned (.tuple #[.slice none 0 0, .int .i64 1]) ∧ x = w := by
  have HH := Lib.hid (has_any k h)
  have HD := Lib.hid (show decide (0 ≤ k ∧ k < n) = false by simp only [decide_eq_false_iff_not]; exact h1)
  clear h h1
  go_enter Try.func28, Try.ntmps28
  go_wp2_with fail
  refine HH.out.mono ?_
  rintro e x ⟨rfl, rfl⟩
  rw [HD.out]
  go_wp2_with fail
  go_ret2
  exact ⟨rfl, rfl⟩
end
end Ta
end Go.Proofs.Ytdodmjcbjknneaa
