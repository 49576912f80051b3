/-
  Layer 12: writes in memory; the document's Read.
-/
import Derived.Test.YtdodmjcbjknneaaTaDoc
import Derived.Deep.DeepCutAuto
import Derived.Deep.MidRow
import Derived.Deep.WholeRow
import Derived.Laws.CopyOwn
namespace Go.Proofs.Ytdodmjcbjknneaa
set_option maxRecDepth 100000
open Go.RowKit
namespace Ta

abbrev tSec : TypeId := 64
/-- A sector's cells. -/
def sec (b : List UInt8) : Array Value := (Lib.byteCells b).toArray
/-- A sector of noughts. -/
def nul : List UInt8 := List.replicate 128 0
/-- Writes that lie in memory: the sector's number, its bytes. -/
structure Wrs (w : World) (ao : Option Addr) (l : List (Int × List UInt8)) : Prop where
  big : l.length ≤ 9223372036854775807
  len : ∀ p ∈ l, p.2.length = 128
  row : l ≠ [] → ∃ g o, ao = some ⟨g, o, none⟩ ∧ ∀ (i : Nat) (h : i < l.length), w.cell? ⟨g, o + i * 129, none⟩ = some (.int .i64 l[i].1) ∧ w.rangeAt g (o + i * 129 + 1) (Lib.byteCells l[i].2)
section
variable {w x : World} {ao : Option Addr} {l : List (Int × List UInt8)}
theorem Wrs.below (h : Wrs w ao l) (hb : Below w.heap.size w x) : Wrs x ao l := by
  refine ⟨h.big, h.len, fun hn => ?_⟩
  obtain ⟨g, o, e, hc⟩ := h.row hn
  refine ⟨g, o, e, fun i hi => ?_⟩
  obtain ⟨h1, h2⟩ := hc i hi
  refine ⟨(hb.cell (World.block_lt_of_cell? w _ h1)).trans h1, fun j v hj => ?_⟩
  have h3 := h2 j v hj
  exact (hb.cell (World.block_lt_of_cell? w _ h3)).trans h3
theorem Wrs.at (h : Wrs w ao l) (cap : Nat) {i : Nat} (hi : i < l.length) :
    ∃ g q, (∀ W, (Instr.indexAt 35 (.slice ao l.length cap) (.int .i64 (i : Int))).run Try.prog W = .ok (.pointer (some ⟨g, q, none⟩)) W) ∧ w.cell? ⟨g, q, none⟩ = some (.int .i64 l[i].1) ∧ w.rangeAt g (q + 1) (Lib.byteCells l[i].2) := by
  obtain ⟨g, o, rfl, hrow⟩ := h.row (fun e => by rw [e] at hi; simp at hi)
  obtain ⟨h1, h2⟩ := hrow i hi
  refine ⟨g, o + i * 129, fun W => ?_, h1, h2⟩
  have hz : ∀ w, (sizeOf (Try.prog.elem 35)).run Try.prog w = .ok 129 w := fun w => by kernel_rfl
  rw [run_indexAt_slice W _ _ _ _ _ _ Try.underlying35, if_pos ⟨by omega, by omega⟩, hz]
  have e : ((i : Int)).toNat = i := by omega
  simp only [Result.andThen_ok, e, Addr.add_lit]
end
theorem sec_size {b : List UInt8} (h : b.length = 128) : (sec b).size = 128 := by
  rw [sec, List.size_toArray, Lib.byteCells_length, h]
theorem sec_one (b : List UInt8) : (sec b).all (·.oneCell') = true := by
  rw [Array.all_eq_true_iff_forall_mem]
  intro v hv
  simp only [sec, Lib.byteCells, List.mem_toArray, List.mem_map] at hv
  obtain ⟨u, -, rfl⟩ := hv
  rfl
theorem last_len {l : List (Int × List UInt8)} (h : ∀ p ∈ l, p.2.length = 128) (k : Int) {z : List UInt8} (hz : z.length = 128) : (last l k z).length = 128 := last_all (P := fun b : List UInt8 => b.length = 128) h k hz
theorem info_sec : (Try.prog.info? tSec).map (·.size) = some 128 := by kernel_rfl
theorem zero_sec (W : World) : (zeroValue tSec).run Try.prog W = .ok (.agg (sec nul)) W := by kernel_rfl
theorem store_sec (W : World) (b : Nat) (c c' : List UInt8) (hb : b = W.heap.size) (hc : c.length = 128) (hc' : c'.length = 128) : (storeCells ⟨b, 0, none⟩ (sec c').toList 0).run Try.prog (W.alloc (.cells (sec c) tSec)) = .ok () (W.alloc (.cells (sec c') tSec)) := by
  subst hb
  exact run_storeCells_new W tSec _ _ (by rw [sec_size hc']; exact info_sec) (by rw [sec_size hc, sec_size hc']) (sec_one _)
theorem store_row (W : World) (g : Nat) (c : Array Value) (c' : List UInt8) (hs : c.size = (sec c').size) (h : W.heap[g]? = some (.cells c tSec (0, 0))) : (storeCells ⟨g, 0, none⟩ (sec c').toList 0).run Try.prog W = .ok () (W.setRow g (sec c')) := by
  have := run_storeCells_from (P := Try.prog) g tSec (sec c').toList 0 c W h (by simp; omega) (fun v hv => (Array.all_eq_true_iff_forall_mem.1 (sec_one c')) v (by simpa using hv))
  simpa using this
theorem load_sec (W : World) (g q : Nat) (c : List UInt8) (hc : c.length = 128) (h : W.rangeAt g q (Lib.byteCells c)) : (loadCellsFrom ⟨g, q, none⟩ 0 128 #[]).run Try.prog W = .ok (sec c) W := by
  have := run_loadCells_list (P := Try.prog) W ⟨g, q, none⟩ (Lib.byteCells c) (fun j v hv => by rw [Addr.add_mid]; exact h j v hv)
  rw [Lib.byteCells_length, hc] at this
  exact this

set_option maxHeartbeats 4000000 in
set_option maxRecDepth 100000 in
theorem rread_any (n : Int) (ao bo : Option Addr) (q r : Nat) (kl cl : List (Int × List UInt8)) (l : Int) (d : Bool) (k : Int) (w : World) (hk : Wrs w ao kl) (hc : Wrs w bo cl) :
    Calls Try.prog 29 #[trV n (.slice ao kl.length q) (.slice bo cl.length r) l d, .int .i64 k] w fun e x => e = .returned (.agg (sec (last (kl ++ cl) k nul))) ∧ Below w.heap.size w x := by
  unfold trV
  have hbk := hk.big
  have hbc := hc.big
  have hz := zero_sec
  have hnl : nul.length = 128 := rfl
  have hsz := @sec_size
  have HS := Lib.hid store_sec
  have hsc := fun W b hb => store_sec W b nul nul hb rfl rfl
  go_enter Try.func29, Try.ntmps29
  have hs0 : (sec nul).size = 128 := rfl
  go_upto_region 2 with fail
  obtain ⟨X, hX⟩ : ∃ X, X = (w.alloc (.cells #[.int .i64 n, .slice ao kl.length q, .slice bo cl.length r, .int .i64 l, .bool d] tTr)).alloc (.cells (sec nul) tSec) := ⟨_, rfl⟩
  rw [← hX]
  have H0 := Lib.hid (show C5 w.heap.size tTr (.int .i64 n) (.slice ao kl.length q) (.slice bo cl.length r) (.int .i64 l) (.bool d) X from by
    rw [hX]
    exact ((Below.refl _ _).alloc (Nat.le_refl _) _ : Below (w.alloc _).heap.size (w.alloc _) _).block w.heap.size (by simp) |>.trans (heap_alloc_new w _))
  have HB := Lib.hid (show Below w.heap.size w X from by rw [hX]; exact ((Below.refl _ _).alloc (Nat.le_refl _) _).alloc (by simp) _)
  have HN := Lib.hid (show w.heap.size + 1 + 1 = X.heap.size from by rw [hX]; simp)
  have HA := Lib.hid (show ∀ b, C5 w.heap.size tTr (.int .i64 n) (.slice ao kl.length q) (.slice bo cl.length r) (.int .i64 l) (.bool d) (X.alloc (.cells (sec b) tSec)) ∧ Wrs (X.alloc (.cells (sec b) tSec)) ao kl ∧ Wrs (X.alloc (.cells (sec b) tSec)) bo cl ∧ Below w.heap.size w (X.alloc (.cells (sec b) tSec)) from fun b => by
    have h2 : Below X.heap.size X (X.alloc (.cells (sec b) tSec)) := (Below.refl _ _).alloc (Nat.le_refl _) _
    have h3 := HB.out.trans (h2.mono HB.out.size)
    exact ⟨(h2.block _ (by have := HN.out; omega)).trans H0.out, hk.below h3, hc.below h3, h3⟩)
  have HC := Lib.hid (show ∀ b, (X.alloc (.cells (sec b) tSec)).heap[w.heap.size + 1]? = some (.cells (sec nul) tSec (0, 0)) ∧ (X.alloc (.cells (sec b) tSec)).heap[w.heap.size + 1 + 1]? = some (.cells (sec b) tSec (0, 0)) from fun b => by
    have h2 : Below X.heap.size X (X.alloc (.cells (sec b) tSec)) := (Below.refl _ _).alloc (Nat.le_refl _) _
    have h4 := heap_alloc_new X (.cells (sec b) tSec)
    refine ⟨(h2.block _ (by have := HN.out; omega)).trans ?_, by rw [HN.out]; exact h4⟩
    have h5 := heap_alloc_new (w.alloc (.cells #[.int .i64 n, .slice ao kl.length q, .slice bo cl.length r, .int .i64 l, .bool d] tTr)) (.cells (sec nul) tSec)
    rw [hX]
    simpa using h5)
  have HL := Lib.hid (And.intro hk.len hc.len)
  clear hX H0 HB hk hc hsc hs0 hz hsz
  obtain ⟨c0, c1, c2, c3, c4⟩ := (HA.out nul).1.cells
  go_wp2_with fail
  clear c0 c1 c2 c3 c4
  go_loopw [12] (fun i wr => ∃ j : Nat, j ≤ kl.length ∧ i = .int .i64 j ∧ wr = X.alloc (.cells (sec (last (kl.take j) k nul)) tSec)) (fun i _ => kl.length - (intOf i).toNat)
  case atStart => exact ⟨0, by omega, rfl, rfl⟩
  case round =>
    obtain ⟨j, hj, rfl, rfl⟩ := hrel
    by_cases hlt : j < kl.length
    · obtain ⟨h1, h2, h3, -⟩ := HA.out (last (kl.take j) k nul)
      obtain ⟨c0, c1, c2, c3, c4⟩ := h1.cells
      obtain ⟨g, o, hix, a0, ar⟩ := h2.at q hlt
      have hb8 : (last (kl.take j) k nul).length = 128 := last_len (fun p hp => HL.out.1 p (List.mem_of_mem_take hp)) k hnl
      have hx8 : kl[j].2.length = 128 := HL.out.1 _ (List.getElem_mem hlt)
      have hnx := last_take hlt k nul
      have hst := HS.out X (w.heap.size + 1 + 1) (last (kl.take j) k nul) kl[j].2 HN.out hb8 hx8
      have HR := Lib.hid ar
      have H8 := Lib.hid hx8
      have hs8 := sec_size hx8
      clear h1 h2 h3 ar hb8 hx8
      have HX := Lib.hid hnx
      clear hnx
      by_cases e : kl[j].1 = k
      · have e1 : (kl[j].1 == k) = true := by simp [e]
        rw [if_pos e] at HX
        clear e
        go_wp2_with fail
        refine wp_load_mid 64 (.tmp 27) rfl g (o + 1) rfl (Lib.byteCells kl[j].2) _ HR.out Try.underlying64 rfl (by rw [Lib.byteCells_length, H8.out]; exact info_sec) ?_
        rw [show (Lib.byteCells kl[j].2).toArray = sec kl[j].2 from rfl]
        go_wp2_with fail
        go_roundw
        case rel => exact ⟨j + 1, by omega, by go_num, by rw [HX.out]⟩
        case measure => simp [intOf]; omega
      · have e1 : (kl[j].1 == k) = false := by simp [e]
        rw [if_neg e] at HX
        clear e
        go_wp2_with fail
        go_roundw
        case rel => exact ⟨j + 1, by omega, by go_num, by rw [HX.out]⟩
        case measure => simp [intOf]; omega
    · have hj' : j = kl.length := by omega
      subst hj'
      rw [List.take_length]
      obtain ⟨h1, -, -, -⟩ := HA.out (last kl k nul)
      obtain ⟨c0, c1, c2, c3, c4⟩ := h1.cells
      clear h1
      go_wp2_with fail
      clear c0 c1 c2 c3 c4
      go_loopw [33] (fun i wr => ∃ j : Nat, j ≤ cl.length ∧ i = .int .i64 j ∧ wr = X.alloc (.cells (sec (last (cl.take j) k (last kl k nul))) tSec)) (fun i _ => cl.length - (intOf i).toNat)
      case atStart => exact ⟨0, by omega, rfl, rfl⟩
      case round =>
        obtain ⟨j, hj, rfl, rfl⟩ := hrel
        by_cases hlt : j < cl.length
        · obtain ⟨h1, h2, h3, -⟩ := HA.out (last (cl.take j) k (last kl k nul))
          obtain ⟨c0, c1, c2, c3, c4⟩ := h1.cells
          obtain ⟨g, o, hix, a0, ar⟩ := h3.at r hlt
          have hb8 : (last (cl.take j) k (last kl k nul)).length = 128 := last_len (fun p hp => HL.out.2 p (List.mem_of_mem_take hp)) k (last_len HL.out.1 k hnl)
          have hx8 : cl[j].2.length = 128 := HL.out.2 _ (List.getElem_mem hlt)
          have hnx := last_take hlt k (last kl k nul)
          have hst := HS.out X (w.heap.size + 1 + 1) (last (cl.take j) k (last kl k nul)) cl[j].2 HN.out hb8 hx8
          have HR := Lib.hid ar
          have H8 := Lib.hid hx8
          have hs8 := sec_size hx8
          clear h1 h2 h3 ar hb8 hx8
          have HX := Lib.hid hnx
          clear hnx
          by_cases e : cl[j].1 = k
          · have e1 : (cl[j].1 == k) = true := by simp [e]
            rw [if_pos e] at HX
            clear e
            go_wp2_with fail
            refine wp_load_mid 64 (.tmp 48) rfl g (o + 1) rfl (Lib.byteCells cl[j].2) _ HR.out Try.underlying64 rfl (by rw [Lib.byteCells_length, H8.out]; exact info_sec) ?_
            rw [show (Lib.byteCells cl[j].2).toArray = sec cl[j].2 from rfl]
            go_wp2_with fail
            go_roundw
            case rel => exact ⟨j + 1, by omega, by go_num, by rw [HX.out]⟩
            case measure => simp [intOf]; omega
          · have e1 : (cl[j].1 == k) = false := by simp [e]
            rw [if_neg e] at HX
            clear e
            go_wp2_with fail
            go_roundw
            case rel => exact ⟨j + 1, by omega, by go_num, by rw [HX.out]⟩
            case measure => simp [intOf]; omega
        · have hj' : j = cl.length := by omega
          subst hj'
          rw [List.take_length, ← last_append]
          obtain ⟨h1, -, -, hb⟩ := HA.out (last (kl ++ cl) k nul)
          obtain ⟨hc1, hc2⟩ := HC.out (last (kl ++ cl) k nul)
          obtain ⟨c0, c1, c2, c3, c4⟩ := h1.cells
          have h8 : (last (kl ++ cl) k nul).length = 128 := last_len (fun p hp => (List.mem_append.1 hp).elim (HL.out.1 p) (HL.out.2 p)) k hnl
          have hi : (Try.prog.info? tSec).map (·.size) = some (sec (last (kl ++ cl) k nul)).size := by rw [sec_size h8]; exact info_sec
          have h0 : (sec nul).size = (sec (last (kl ++ cl) k nul)).size := by rw [sec_size h8, sec_size hnl]
          have hs := setRow_heap _ (w.heap.size + 1) _ (sec (last (kl ++ cl) k nul)) _ _ hc1
          have hB := below_setRow hb (g := w.heap.size + 1) (by omega) (sec (last (kl ++ cl) k nul))
          have HE := Lib.hid (And.intro (And.intro hc1 hc2) (And.intro (And.intro hi h0) (And.intro hs hB)))
          clear h1 hb hc1 hc2 h8 hi h0 hs hB
          go_wp2_with fail
          obtain ⟨⟨hc1, hc2⟩, ⟨hi, h0⟩, hs, hB⟩ := HE.out
          refine wp_load_row tSec (.tmp 5) rfl (w.heap.size + 1 + 1) rfl tSec _ (0, 0) _ hc2 Try.underlying64 rfl hi ?_
          have hs8 : (sec (last (kl ++ cl) k nul)).size = 128 := h0.symm.trans (sec_size hnl)
          have hst := store_row _ _ _ _ h0 hc1
          have HI := Lib.hid hi
          clear hi h0 hc1 hc2
          go_wp2_with fail
          exact bodyPost_ret (v := .agg (sec (last (kl ++ cl) k nul))) (results_cell_row (p := 4) (ty := tSec) (by kernel_rfl) _ _ (w.heap.size + 1) tSec _ (0, 0) _ rfl hs Try.underlying64 rfl HI.out) rfl ⟨rfl, hB⟩
end Ta
end Go.Proofs.Ytdodmjcbjknneaa
