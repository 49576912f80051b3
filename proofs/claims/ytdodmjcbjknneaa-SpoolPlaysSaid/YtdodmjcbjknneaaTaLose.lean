/-
  Layer 12: the program's tray: Lose.
-/
import Derived.Test.YtdodmjcbjknneaaTaFlush
namespace Go.Proofs.Ytdodmjcbjknneaa
set_option maxRecDepth 100000
open Go.RowKit
namespace Ta
open Knot (Turns NewRow)
open Tr (IsElem append_rows wp_rows own_turn own_below own_slice own_open addp)
section
variable {w : World} {p n : Nat} {t : Tray (List UInt8)} {F : Nat → Prop}
theorem flag_at {v : Value} {c : List Bool} (h : IsFlags w v c) {j : Nat} (hj : j < c.length) : ∃ g q, (∀ W, (Instr.indexAt 50 v (.int .i64 (j : Int))).run Try.prog W = .ok (.pointer (some ⟨g, q, none⟩)) W) ∧ w.cell? ⟨g, q, none⟩ = some (.bool c[j]) := by
  obtain ⟨ao, cap, rfl, h1, h2, h3⟩ := h
  obtain ⟨g, o, rfl, hc⟩ := h3 (by omega)
  refine ⟨g, o + j, fun W => ?_, hc j _ (by simp [hj])⟩
  have hz : ∀ w, (sizeOf (Try.prog.elem 50)).run Try.prog w = .ok 1 w := fun w => by kernel_rfl
  have : c.length ≤ 9223372036854775807 := Nat.le_trans h1 (Nat.le_trans h2 (by decide))
  rw [run_indexAt_slice W _ _ _ _ _ _ Try.underlying50, if_pos ⟨by omega, by omega⟩, hz]
  have e : ((j : Int)).toNat = j := by omega
  simp only [Result.andThen_ok, e, Addr.add_lit, Nat.mul_one]
theorem getD_at {c : List Bool} {j : Nat} (h : j < c.length) : c.getD j false = c[j] := by rw [List.getD_eq_getElem?_getD, List.getElem?_eq_getElem h]; rfl
theorem getD_past {c : List Bool} {j : Nat} (h : ¬ j < c.length) : c.getD j false = false := by rw [List.getD_eq_getElem?_getD, List.getElem?_eq_none (by omega)]; rfl

set_option maxHeartbeats 4000000 in
set_option maxRecDepth 100000 in
theorem lose_any (h : IsT w p n t F) (v : Value) (c : List Bool) (hv : IsFlags w v c) (hcl : t.cache.length ≤ 100000) : Calls Try.prog 23 #[ptr p, v] w fun e x =>
    ∃ q, e = .returned (ptr q) ∧ w.heap.size ≤ q ∧ Below w.heap.size w x ∧ IsT x q n (t.lose c) (Made w x) := by
  obtain ⟨gn, cn, gk, ck, cv, hl⟩ := h.mem
  obtain ⟨-, c1, c2, -⟩ := boxC_cells hl.box
  obtain ⟨vo, vcap, rfl, hv1, hv2, hv3⟩ := hv
  have HV := Lib.hid (show IsFlags w (.slice vo c.length vcap) c from ⟨vo, vcap, rfl, hv1, hv2, hv3⟩)
  have HCl := Lib.hid (clone_any gk ck _ hl.kept (one_flat _) h.num)
  obtain ⟨ao, cap, rfl⟩ := own_slice hl.cache
  have H := Lib.hid (And.intro h hl)
  have hvl : c.length ≤ 9223372036854775807 := Nat.le_trans hv1 (Nat.le_trans hv2 (by decide))
  clear h hl hv1 hv2 hv3
  go_enter Try.func23, Try.ntmps23
  go_wp2_with fail
  refine HCl.out.mono ?_
  rintro e x ⟨g', c', rfl, o1, b1⟩
  have hc2 := (b1.cell (p := ⟨p, 2, none⟩) (H.out.1.low p H.out.1.fp)).trans c2
  have HO := Lib.hid (And.intro o1 b1)
  clear c1 c2 o1 b1
  go_wp2_with fail
  clear hc2
  go_loopw [18] (fun i y => ∃ j : Nat, j ≤ t.cache.length ∧ i = .int .i64 (j : Int) ∧ Hid (Below w.heap.size w y ∧ y.ownsRow 0 tSe 128 (.slice (some ⟨g', 0, none⟩) n c') n (flat (disk n (t.kept ++ pick (t.cache.take j) c))))) (fun i _ => t.cache.length - (intOf i).toNat)
  case atStart =>
    refine ⟨0, by omega, rfl, ⟨HO.out.2, ?_⟩⟩
    have e : pick (t.cache.take 0) c = [] := by rw [List.take_zero]; cases c <;> rfl
    rw [e, List.append_nil]
    exact own_low HO.out.1
  case round =>
    obtain ⟨j, hj, rfl, HY⟩ := hrel
    by_cases hlt : j < t.cache.length
    · obtain ⟨h, hl⟩ := H.out
      have hlen := h.lenc _ (List.getElem_mem hlt)
      obtain ⟨g, hg, hix, hr⟩ := wr_lies (own_below hl.cache HY.out.1) (fun q hq => (h.lenc q hq).1) hlt
      have hpk := pick_take hlt c
      have hpl : ∀ q ∈ t.kept ++ pick (t.cache.take j) c, q.2.length = 128 := fun q hq => (List.mem_append.1 hq).elim (h.lenk q) fun hq => (h.lenc q (List.mem_of_mem_take (pick_mem hq))).1
      generalize hq : t.cache[j] = q at *
      obtain ⟨k, b⟩ := q
      simp only at hlen hr
      have h8 := hlen.1
      have HR := Lib.hid (And.intro hr h8)
      have hz := zero_wr
      have hst := store_wr wr wr.heap.size 0 k nul b rfl rfl h8
      have hs0 := wr_size (b := nul) rfl 0
      have hsk := wr_size h8 k
      have hw3 : ¬ wrc 0 nul = #[] := fun e => by rw [e] at hs0; cases hs0
      obtain ⟨X, hX⟩ : ∃ X, X = wr.alloc (.cells (wrc k b) tWr) := ⟨_, rfl⟩
      have hal : Below wr.heap.size wr X := by rw [hX]; exact (Below.refl _ _).alloc (Nat.le_refl _) _
      have hnew : X.heap[wr.heap.size]? = some (.cells (wrc k b) tWr (0, 0)) := by rw [hX]; exact heap_alloc_new wr _
      have hB : Below w.heap.size w X := HY.out.1.trans (hal.mono HY.out.1.size)
      have hrow : X.ownsRow 0 tSe 128 (.slice (some ⟨g', 0, none⟩) n c') n (flat (disk n (t.kept ++ pick (t.cache.take j) c))) := own_below HY.out.2 hal
      have HH := Lib.hid (And.intro hB (And.intro hrow (And.intro hpk (And.intro hpl hlen))))
      have HN := Lib.hid hnew
      by_cases hjc : j < c.length
      · have hjI : (j : Int) < (c.length : Int) := by omega
        obtain ⟨fg, fq, hfi, hfc⟩ := flag_at HV.out hjc
        have hfx := (hB.cell (p := ⟨fg, fq, none⟩) (World.block_lt_of_cell? w _ hfc)).trans hfc
        have hgd := getD_at hjc
        have HI := Lib.hid (And.intro hq hjc)
        clear h hl hlen hr h8 hal hnew hB hrow hpk hpl hq hg hfc
        cases hcj : c[j] with
        | false =>
          rw [hcj] at hfx hgd
          have HGD := Lib.hid hgd
          clear hcj hgd hjc
          subst hX
          go_wp2_with (refine wpList_load_mid rfl tWr (.tmp 21) rfl g (j * 129) rfl (wrc k b).toList _ HR.out.1 Try.underlying94 rfl (by rw [Array.length_toList, wr_size HR.out.2]; exact info_wr) ?_; rw [Array.toArray_toList])
          go_roundw
          case rel =>
            refine ⟨j + 1, by omega, by go_num, ⟨HH.out.1, ?_⟩⟩
            rw [HH.out.2.2.1, HGD.out, if_neg (by decide), List.append_nil]
            exact HH.out.2.1
          case measure => simp [intOf]; omega
        | true =>
          rw [hcj] at hfx hgd
          have HGD := Lib.hid hgd
          clear hcj hgd hjc
          obtain ⟨n0, n1⟩ : X.cell? ⟨wr.heap.size, 0, none⟩ = some (.int .i64 k) ∧ (Instr.loadAt tSe (.pointer (some ⟨wr.heap.size, 1, none⟩))).run Try.prog X = .ok (.agg (sec b)) X := ⟨wr_range_bytes (wr_range HN.out), load_se X _ 1 b HR.out.2 (wr_bytes HN.out)⟩
          have HN1 := Lib.hid (wr_bytes HN.out)
          clear n1
          have hxi := index_se g' n c' k HH.out.2.2.2.2.2.1 HH.out.2.2.2.2.2.2
          have hs8 := sec_size HR.out.2
          have HTh := Lib.hid (And.intro (show X.there g' (k.toNat * 128) (sec b).size by rw [hs8]; exact own_there HH.out.2.1 (by have := HH.out.2.2.2.2; omega)) (show (Try.prog.info? tSe).map (·.size) = some (sec b).size by rw [hs8]; exact info_se))
          subst hX
          go_wp2_with (first | (refine wpList_load_mid rfl tWr (.tmp 21) rfl g (j * 129) rfl (wrc k b).toList _ HR.out.1 Try.underlying94 rfl (by rw [Array.length_toList, wr_size HR.out.2]; exact info_wr) ?_; rw [Array.toArray_toList]) | (refine wpList_load_mid rfl tSe (.tmp 36) rfl wr.heap.size 1 rfl (Lib.byteCells b) _ HN1.out Try.underlying92 rfl (by rw [Lib.byteCells_length, HR.out.2]; exact info_se) ?_; rw [show (Lib.byteCells b).toArray = sec b from rfl]) | (refine wpList_store_mid rfl tSe (.tmp 38) (.tmp 37) rfl g' (k.toNat * 128) (sec b) rfl rfl HTh.out.1 HTh.out.2 (sec_one _) ?_; rw [show (sec b).toList = Lib.byteCells b by simp [sec]]))
          have hset := own_set (Lib.byteCells b) (k.toNat * 128) HH.out.2.1
          rw [flat_set (disk_all HH.out.2.2.2.1) (by rw [disk_len]; have := HH.out.2.2.2.2; omega) HR.out.2, disk_set, show ((k.toNat : Nat) : Int) = k by have := HH.out.2.2.2.2; omega, List.append_assoc] at hset
          obtain ⟨Y, hY⟩ : ∃ Y, Y = (wr.alloc (.cells (wrc k b) tWr)).setCells g' (k.toNat * 128) (Lib.byteCells b) := ⟨_, rfl⟩
          rw [← hY] at hset ⊢
          have hg' : w.heap.size ≤ g' := (HO.out.1.lt g' rfl).1
          have HS := Lib.hid (And.intro hset (HH.out.1.trans (hset.2.below (B := w.heap.size) HH.out.1.size fun i e => by rw [e]; exact hg')))
          clear hset hY n0 hxi hs8
          go_wp2_with fail
          go_roundw
          case rel =>
            refine ⟨j + 1, by omega, by go_num, ⟨HS.out.2, ?_⟩⟩
            rw [HH.out.2.2.1, HGD.out, if_pos rfl]
            exact HS.out.1.1
          case measure => simp [intOf]; omega
      · have hjI : ¬ (j : Int) < (c.length : Int) := by omega
        have HGD := Lib.hid (getD_past hjc)
        clear h hl hlen hr h8 hal hnew hB hrow hpk hpl hq hg hjc
        subst hX
        go_wp2_with (refine wpList_load_mid rfl tWr (.tmp 21) rfl g (j * 129) rfl (wrc k b).toList _ HR.out.1 Try.underlying94 rfl (by rw [Array.length_toList, wr_size HR.out.2]; exact info_wr) ?_; rw [Array.toArray_toList])
        go_roundw
        case rel =>
          refine ⟨j + 1, by omega, by go_num, ⟨HH.out.1, ?_⟩⟩
          rw [HH.out.2.2.1, HGD.out, if_neg (by decide), List.append_nil]
          exact HH.out.2.1
        case measure => simp [intOf]; omega
    · have hj' : j = t.cache.length := by omega
      subst hj'
      rw [List.take_length] at HY
      have HK := Lib.hid (keeping_any g' c' (t.kept ++ pick t.cache c) HY.out.2 (fun q hq => (List.mem_append.1 hq).elim (H.out.1.lenk q) fun hq => (H.out.1.lenc q (pick_mem hq)).1) H.out.1.num)
      go_wp2_with fail
      refine HK.out.mono ?_
      rintro e z ⟨q, rfl, hq, hb, hz⟩
      have HZ := Lib.hid (And.intro hq (And.intro hb hz))
      clear hq hb hz
      go_wp2_with fail
      go_ret
      obtain ⟨hq, hb, hz⟩ := HZ.out
      have h1 := HY.out.1.size
      have h2 := hb.size
      refine ⟨q, rfl, by omega, HY.out.1.trans (hb.mono h1), hz.mono (fun i hi => ?_) fun i hi => hi.2⟩
      rcases hi with rfl | hi
      · exact ⟨(HO.out.1.lt i rfl).1, by have := (HY.out.2.lt i rfl).2; omega⟩
      · exact ⟨by have := hi.1; omega, hi.2⟩
end
end Ta
end Go.Proofs.Ytdodmjcbjknneaa
