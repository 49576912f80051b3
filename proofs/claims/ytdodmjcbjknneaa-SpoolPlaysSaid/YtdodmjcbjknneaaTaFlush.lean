/-
  Layer 12: the program's tray: Flush.
-/
import Derived.Test.YtdodmjcbjknneaaTaPut
namespace Go.Proofs.Ytdodmjcbjknneaa
set_option maxRecDepth 100000
open Go.RowKit
namespace Ta
open Knot (Turns NewRow)
open Tr (IsElem append_rows wp_rows own_turn own_below own_slice own_open addp)
section
variable {w : World} {p n : Nat} {t : Tray (List UInt8)} {F : Nat → Prop}
/-- A write out of a row of writes. -/
theorem wr_lies {v : Value} {l : List (Int × List UInt8)} (h : w.ownsRow 0 tWr 129 v l.length (wcells l)) (hl : ∀ q ∈ l, q.2.length = 128) {j : Nat} (hj : j < l.length) :
    ∃ g, v.ownBlock = some g ∧ (∀ W, (Instr.indexAt tWs v (.int .i64 (j : Int))).run Try.prog W = .ok (.pointer (some ⟨g, j * 129, none⟩)) W) ∧ w.rangeAt g (j * 129) (wrc l[j].1 l[j].2).toList := by
  rcases h.2 with ⟨-, h0⟩ | ⟨g, cap, cur, rfl, -, hg, hn, hc, hs, ht⟩
  · omega
  · refine ⟨g, rfl, fun W => ?_, fun i u hu => ?_⟩
    · have hz : ∀ w, (sizeOf (Try.prog.elem tWs)).run Try.prog w = .ok 129 w := fun w => by kernel_rfl
      have : l.length ≤ 9223372036854775807 := Nat.le_trans hn (Nat.le_trans hc (by decide))
      rw [run_indexAt_slice W _ _ _ _ _ _ Try.underlying88, if_pos ⟨by omega, by omega⟩, hz]
      have e : ((j : Int)).toNat = j := by omega
      simp only [Result.andThen_ok, e, Addr.add_lit, Nat.zero_add]
    · have hw : (wrc l[j].1 l[j].2).toList = Value.int .i64 l[j].1 :: Lib.byteCells l[j].2 := by simp [wrc]
      rw [hw] at hu
      have hi : i < 129 := by
        have := (List.getElem?_eq_some_iff.1 hu).1
        rw [List.length_cons, Lib.byteCells_length, hl _ (List.getElem_mem hj)] at this
        exact this
      rw [World.ownsRow.cellAt (g := g) ⟨h.1, .inr ⟨g, cap, cur, rfl, Nat.zero_le _, hg, hn, hc, hs, ht⟩⟩ (j * 129 + i) (by omega), wcells_at hl hj hi]
      exact hu
theorem wr_range_bytes {w : World} {g q : Nat} {k : Int} {b : List UInt8} (h : w.rangeAt g q (wrc k b).toList) : w.cell? ⟨g, q, none⟩ = some (.int .i64 k) := by
  have := h 0 (.int .i64 k) (by simp [wrc])
  simpa using this

/-- The tray behind a flush. -/
theorem flush_mem {x y : World} (h : IsT w p n t F) {gn cn gk ck : Nat} {cv : Value} (hl : Lay w p n t F gn cn gk ck cv) (ht : Turns (fun k => k = gk) w x)
    (hk : x.ownsRow 0 tSe 128 (.slice (some ⟨gk, 0, none⟩) n ck) n (flat (disk n (t.kept ++ t.cache)))) (e : y = x.setCell ⟨p, 2, none⟩ (.slice none 0 0)) :
    Turns F w y ∧ IsT y p n { t with kept := t.kept ++ t.cache, cache := [] } F := by
  obtain ⟨a1, a2, a3⟩ := hl.apart
  have t2 : Turns (fun k => k = p) x y := by rw [e]; exact turn_set _ _ _ _
  have t3 : Turns F w y := (ht.mono (G := F) fun _ _ e => by rw [e]; exact hl.fk).trans t2 fun _ _ e => by rw [e]; exact h.fp
  have hbx := ht.heap hl.box a2
  refine ⟨t3, h.num, h.left, fun q hq => (List.mem_append.1 hq).elim (h.lenk q) fun hq => (h.lenc q hq).1, (fun q hq => by cases hq), fun j hj => Nat.lt_of_lt_of_le (h.low j hj) t3.size, h.fp, gn, cn, gk, ck, .slice none 0 0, ?_, ?_, ?_, World.ownsRow_nil _ _ _ _, hl.fn, hl.fk, (fun j hj => nomatch hj), hl.ne⟩
  · rw [e, box_set hbx]
    rfl
  · have hn := own_turn (own_turn hl.now ht fun j hj e => by obtain rfl : gn = j := Option.some.inj hj; exact hl.ne e) t2 fun j hj e => by obtain rfl : gn = j := Option.some.inj hj; exact a1 e.symm
    simpa using hn
  · exact own_turn hk t2 fun j hj e => by obtain rfl : gk = j := Option.some.inj hj; exact a2 e.symm

/-- A tray that was flushed, and the error. -/
def Tray.flushed (t : Tray (List UInt8)) : Tray (List UInt8) × Int := (t.flush, if t.left = 0 then 20 else 0)
set_option maxHeartbeats 4000000 in
set_option maxRecDepth 100000 in
theorem flush_any (h : IsT w p n t F) (hc : t.cache.length ≤ 100000) : Calls Try.prog 50 #[ptr p] w fun e x =>
    e = .returned (.int .i64 (if t.left = 0 then 20 else 0)) ∧ Turns F w x ∧ IsT x p n t.flush F := by
  have HS := Lib.hid (step_any h)
  have H := Lib.hid h
  by_cases h0 : t.left = 0
  · rw [show decide (t.left ≠ 0) = false by simp [h0]] at HS
    rw [if_pos h0, show t.flush = t.dim by unfold Tray.flush; rw [if_pos h0]]
    have HQ := Lib.hid (show t.step = t.dim by unfold Tray.step; rw [if_pos h0])
    clear h h0
    go_enter Try.func50, Try.ntmps50
    go_wp2_with fail
    refine HS.out.mono ?_
    rintro e x ⟨rfl, ht, hx⟩
    rw [HQ.out] at hx
    have HX := Lib.hid (And.intro ht hx)
    clear ht hx
    go_wp2_with fail
    go_ret
    exact ⟨rfl, HX.out.1.mono fun _ _ e => by rw [e]; exact H.out.fp, HX.out.2⟩
  · rw [show decide (t.left ≠ 0) = true by simp [h0]] at HS
    rw [if_neg h0]
    have HQ := Lib.hid (show t.flush = { t.step with kept := t.step.kept ++ t.step.cache, cache := [] } by unfold Tray.flush Tray.step; rw [if_neg h0, if_neg h0]; rfl)
    clear h h0
    go_enter Try.func50, Try.ntmps50
    go_wp2_with fail
    refine HS.out.mono ?_
    rintro e x ⟨rfl, ht, hx⟩
    obtain ⟨gn, cn, gk, ck, cv, hl⟩ := hx.mem
    obtain ⟨-, -, c2, -⟩ := boxC_cells hl.box
    obtain ⟨ao, cap, rfl⟩ := own_slice hl.cache
    have HX := Lib.hid (And.intro ht (And.intro hx hl))
    have hcs : t.step.cache.length ≤ 100000 := by rw [(step_parts t).2]; exact hc
    have HC := Lib.hid hcs
    clear ht hx hl hc
    go_wp2_with fail
    clear c2
    go_loopw [13] (fun i y => ∃ j : Nat, j ≤ t.step.cache.length ∧ i = .int .i64 (j : Int) ∧ Hid (Turns (fun k => k = gk) x y ∧ y.ownsRow 0 tSe 128 (.slice (some ⟨gk, 0, none⟩) n ck) n (flat (disk n (t.step.kept ++ t.step.cache.take j))))) (fun i _ => t.step.cache.length - (intOf i).toNat)
    case atStart =>
      refine ⟨0, by omega, rfl, ⟨Turns.refl _ _, ?_⟩⟩
      rw [List.take_zero, List.append_nil]
      exact HX.out.2.2.kept
    case round =>
      obtain ⟨j, hj, rfl, HY⟩ := hrel
      by_cases hlt : j < t.step.cache.length
      · obtain ⟨ht, hx, hl⟩ := HX.out
        obtain ⟨a1, a2, a3⟩ := hl.apart
        have hlen := hx.lenc _ (List.getElem_mem hlt)
        obtain ⟨g, hg, hix, hr⟩ := wr_lies (own_turn hl.cache HY.out.1 fun i hi => (a3 i hi).2.2) (fun q hq => (hx.lenc q hq).1) hlt
        have hbx := HY.out.1.heap hl.box a2
        generalize hq : t.step.cache[j] = q at *
        obtain ⟨k, b⟩ := q
        simp only at hlen hr
        have h8 := hlen.1
        have HR := Lib.hid (And.intro hr h8)
        have hz := zero_wr
        have hst := store_wr wr wr.heap.size 0 k nul b rfl rfl h8
        have hs0 := wr_size (b := nul) rfl 0
        have hsk := wr_size h8 k
        have hw3 : ¬ wrc 0 nul = #[] := fun e => by rw [e] at hs0; cases hs0
        obtain ⟨X, hX⟩ : ∃ X, X = wr.alloc (.cells (wrc k b) tWr) := ⟨_, rfl⟩
        have hal : Below wr.heap.size wr X := by rw [hX]; exact (Below.refl _ _).alloc (Nat.le_refl _) _
        have hnew : X.heap[wr.heap.size]? = some (.cells (wrc k b) tWr (0, 0)) := by rw [hX]; exact heap_alloc_new wr _
        have hgk : gk < wr.heap.size := by have := hx.low gk hl.fk; have := HY.out.1.size; omega
        have hplt := (Array.getElem?_eq_some_iff.1 hbx).1
        have hnlt := (Array.getElem?_eq_some_iff.1 hnew).1
        obtain ⟨-, c1, -⟩ := boxC_cells hbx
        have HF := Lib.hid (show ∀ x, Below X.heap.size X x → x.cell? ⟨p, 1, none⟩ = some (.slice (some ⟨gk, 0, none⟩) n ck) ∧ x.cell? ⟨wr.heap.size, 0, none⟩ = some (.int .i64 k) ∧ (Instr.loadAt tSe (.pointer (some ⟨wr.heap.size, 1, none⟩))).run Try.prog x = .ok (.agg (sec b)) x from fun x hx => by
          have hn2 := (hx.block wr.heap.size hnlt).trans hnew
          exact ⟨(hx.cell (p := ⟨p, 1, none⟩) (by have := hal.size; show p < _; omega)).trans ((hal.cell (p := ⟨p, 1, none⟩) hplt).trans c1), wr_range_bytes (wr_range hn2), load_se x _ 1 b h8 (wr_bytes hn2)⟩)
        have hdr : Below wr.heap.size wr X.drew := hal.drew
        have hrow : X.drew.ownsRow 0 tSe 128 (.slice (some ⟨gk, 0, none⟩) n ck) n (flat (disk n (t.step.kept ++ t.step.cache.take j))) := own_below HY.out.2 hdr
        have hth : X.drew.there gk (k.toNat * 128) (sec b).size := by rw [sec_size h8]; exact own_there hrow (by omega)
        have hset := own_set (Lib.byteCells b) (k.toNat * 128) hrow
        rw [flat_set (disk_all fun q hq => (List.mem_append.1 hq).elim (hx.lenk q) fun hq => (hx.lenc q (List.mem_of_mem_take hq)).1) (by rw [disk_len]; omega) h8, disk_set, show ((k.toNat : Nat) : Int) = k by omega, List.append_assoc, ← hq, ← List.take_succ_eq_append_getElem hlt] at hset
        have HSet := Lib.hid (And.intro hset hdr)
        have hxi := index_se gk n ck k hlen.2.1 hlen.2.2
        have hs8 := sec_size h8
        have HTh := Lib.hid (And.intro hth (show (Try.prog.info? tSe).map (·.size) = some (sec b).size by rw [hs8]; exact info_se))
        have HG := Lib.hid hgk
        clear ht hx hl a1 a2 a3 hlen hr h8 hbx hal hnew hgk hplt hnlt c1 hdr hrow hth hset hq hg
        go_wp2_with (refine wpList_load_mid rfl tWr (.tmp 15) rfl g (j * 129) rfl (wrc k b).toList _ HR.out.1 Try.underlying94 rfl (by rw [Array.length_toList, wr_size HR.out.2]; exact info_wr) ?_; rw [Array.toArray_toList])
        rw [← hX]
        refine Order.beginE (fun x => Below X.heap.size X x) [9] (by kernel_rfl) ?_
        refine Order.readsE_any (idx := [0, 1, 2, 3, 4, 5, 6, 7, 8]) (by kernel_rfl) (Below.refl _ _).drew (fun _ _ _ _ _ h => Order.noPanic_put h) 1 _ _ (by decide +kernel) ?_
        simp only [Order.pick, List.getElem?_toArray, List.getElem?_cons_zero, List.getElem?_cons_succ]
        repeat (first
          | (refine Order.reads_off (by rfl) ?_
             simp only [Act.put, List.setIfInBounds_toArray, List.set_cons_zero, List.set_cons_succ])
          | (apply Order.reads_on
             · rfl
             · intro x hx
               first
                 | (obtain ⟨q0, q1, q2⟩ := HF.out x hx
                    exact Order.load_at rfl rfl (by assumption))
                 | (go_simp; rfl)
                 | (obtain ⟨q0, q1, q2⟩ := HF.out x hx
                    go_simp; rfl)
             simp only [Act.put, List.setIfInBounds_toArray, List.set_cons_zero, List.set_cons_succ]))
        refine Order.reads_end ?_
        apply Order.lastE (i := 9)
        · rfl
        · decide +kernel
        · decide
        · rfl
        simp only [List.getElem_toArray, List.getElem_cons_succ, List.getElem_cons_zero]
        refine wp_store_mid tSe (.tmp 25) (.tmp 24) rfl gk (k.toNat * 128) (sec b) rfl rfl HTh.out.1 HTh.out.2 (sec_one _) ?_
        rw [show (sec b).toList = Lib.byteCells b by simp [sec]]
        refine Order.doneE (by decide +kernel) ?_ _
        refine NoPanic.normal ?_
        obtain ⟨Y, hY⟩ : ∃ Y, Y = X.drew.setCells gk (k.toNat * 128) (Lib.byteCells b) := ⟨_, rfl⟩
        rw [← hY] at HSet ⊢
        have HYY := Lib.hid (show Turns (fun k => k = gk) x Y ∧ Y.ownsRow 0 tSe 128 (.slice (some ⟨gk, 0, none⟩) n ck) n (flat (disk n (t.step.kept ++ t.step.cache.take (j + 1)))) from
          ⟨(HY.out.1.then_below HSet.out.2).trans HSet.out.1.2 fun _ _ e => e, HSet.out.1.1⟩)
        clear hX hY HSet HF HTh hz hst hs0 hsk hw3 hix hxi hs8
        go_wp2_with fail
        go_roundw
        case rel => exact ⟨j + 1, by omega, by go_num, HYY⟩
        case measure => simp [intOf]; omega
      · have hj' : j = t.step.cache.length := by omega
        subst hj'
        rw [List.take_length] at HY
        have hbx := HY.out.1.heap HX.out.2.2.box HX.out.2.2.apart.2.1
        obtain ⟨-, -, c2, -⟩ := boxC_cells hbx
        have f2 := boxC_free hbx 2
        have HFin := Lib.hid (flush_mem HX.out.2.1 HX.out.2.2 HY.out.1 HY.out.2 rfl)
        clear hbx
        go_wp2_with fail
        go_ret
        rw [HQ.out]
        exact ⟨rfl, (HX.out.1.mono (G := F) fun _ _ e => by rw [e]; exact H.out.fp).trans HFin.out.1 fun _ _ h => h, HFin.out.2⟩
end
end Ta
end Go.Proofs.Ytdodmjcbjknneaa
