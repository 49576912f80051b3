/-
  Layer 12: the program's tray: Write.
-/
import Derived.Test.YtdodmjcbjknneaaTaNew
import Derived.Test.YtdodmjcbjknneaaOrd2
import Derived.Test.YtdodmjcbjknneaaTaArg
namespace Go.Proofs.Ytdodmjcbjknneaa
set_option maxRecDepth 100000
open Go.RowKit
namespace Ta
open Knot (Turns NewRow)
open Tr (IsElem append_rows wp_rows own_turn own_below own_slice own_open addp)

/-- Noughts behind. -/
def pad (b : List UInt8) : List UInt8 := b ++ List.replicate (128 - b.length) 0
theorem pad_len {b : List UInt8} (h : b.length ≤ 128) : (pad b).length = 128 := by simp [pad]; omega
/-- A write's cells. -/
def wrc (k : Int) (b : List UInt8) : Array Value := (Value.int .i64 k :: Lib.byteCells b).toArray
theorem wr_size {b : List UInt8} (h : b.length = 128) (k : Int) : (wrc k b).size = 129 := by simp [wrc, Lib.byteCells_length, h]
theorem wr_one (k : Int) (b : List UInt8) : (wrc k b).all (·.oneCell') = true := by
  rw [Array.all_eq_true_iff_forall_mem]
  intro v hv
  exact one_write (k, b) v (by simpa [wrc] using hv)
theorem build_wr (k : Int) (W : World) : (Instr.build tWr #[(0, .int .i64 k)]).run Try.prog W = .ok (.agg (wrc k nul)) W := by kernel_rfl
theorem zero_wr (W : World) : (zeroValue tWr).run Try.prog W = .ok (.agg (wrc 0 nul)) W := by kernel_rfl
theorem info_wr : (Try.prog.info? tWr).map (·.size) = some 129 := by kernel_rfl
theorem store_wr (W : World) (b : Nat) (j k : Int) (c c' : List UInt8) (hb : b = W.heap.size) (hc : c.length = 128) (hc' : c'.length = 128) : (storeCells ⟨b, 0, none⟩ (wrc k c').toList 0).run Try.prog (W.alloc (.cells (wrc j c) tWr)) = .ok () (W.alloc (.cells (wrc k c') tWr)) := by
  subst hb
  exact run_storeCells_new W tWr _ _ (by rw [wr_size hc']; exact info_wr) (by rw [wr_size hc, wr_size hc']) (wr_one _ _)
theorem splice_wr (k : Int) (b : List UInt8) : (splice (wrc k nul).toList 1 (Lib.byteCells b)).toArray = wrc k (pad b) := by
  have h1 : (wrc k nul).toList = Value.int .i64 k :: Lib.byteCells nul := by simp [wrc]
  unfold splice
  rw [h1, nul_cells, Lib.byteCells_length]
  have h2 : (Value.int .i64 k :: List.replicate 128 (Value.int .u8 0)).drop (1 + b.length) = List.replicate (128 - b.length) (Value.int .u8 0) := by
    rw [show 1 + b.length = b.length + 1 by omega, List.drop_succ_cons, List.drop_replicate]
  rw [h2]
  simp [wrc, pad, Lib.byteCells]
theorem wr_range {w : World} {g : Nat} {k : Int} {b : List UInt8} (h : w.heap[g]? = some (.cells (wrc k b) tWr (0, 0))) : w.rangeAt g 0 (wrc k b).toList := fun j v hj => by
  rw [Lib.cell_of_heap h, Nat.zero_add]
  simpa using hj
theorem wr_bytes {w : World} {g : Nat} {k : Int} {b : List UInt8} (h : w.heap[g]? = some (.cells (wrc k b) tWr (0, 0))) : w.rangeAt g 1 (Lib.byteCells b) := fun j v hj => by
  rw [Lib.cell_of_heap h, Nat.add_comm]
  simp only [wrc, List.getElem?_toArray, List.getElem?_cons_succ]
  exact hj
theorem load_se (W : World) (g q : Nat) (c : List UInt8) (hc : c.length = 128) (h : W.rangeAt g q (Lib.byteCells c)) : (Instr.loadAt tSe (.pointer (some ⟨g, q, none⟩))).run Try.prog W = .ok (.agg (sec c)) W :=
  run_loadAt_mid W g q tSe (Lib.byteCells c) _ h Try.underlying92 rfl (by rw [Lib.byteCells_length, hc]; exact info_se)
theorem load_wr (W : World) (g : Nat) (k : Int) (c : List UInt8) (hc : c.length = 128) (h : W.heap[g]? = some (.cells (wrc k c) tWr (0, 0))) : (Instr.loadAt tWr (.pointer (some ⟨g, 0, none⟩))).run Try.prog W = .ok (.agg (wrc k c)) W := by
  have := run_loadAt_mid (P := Try.prog) W g 0 tWr (wrc k c).toList _ (wr_range h) Try.underlying94 rfl (by rw [Array.length_toList, wr_size hc]; exact info_wr)
  rw [Array.toArray_toList] at this
  exact this
set_option maxRecDepth 100000 in
/-- One write as a list. -/
theorem one_wr (W : World) (k : Int) (c : List UInt8) (hc : c.length = 128) : (Instr.buildSlice tWs 1 #[(0, .agg (wrc k c))]).run Try.prog W = .ok (.slice (some ⟨W.heap.size, 0, none⟩) 1 1) (W.alloc (.cells (wrc k c) tWr)) := by
  obtain ⟨i, z, b, T, -⟩ := wrElem
  have hs := T.size
  obtain ⟨r, hr, h1, h2⟩ := Great.fill_dense (s := 129) (by omega) [.agg (wrc k c)] 0 ((Array.range (1 * i.size)).map (z.cells[· % z.cells.size]!)) (fun v hv => by
    rw [List.mem_singleton] at hv
    subst hv
    exact wr_size hc k) (by simp [hs])
  have e : r = wrc k c := by
    refine Array.ext_getElem? fun q => ?_
    have hq := h2 q
    by_cases hlt : q < 129
    · rw [if_pos (by simp; omega)] at hq
      have e1 : q / 129 = 0 := by omega
      have e2 : q % 129 = q := by omega
      rw [hq, e1, e2]
      rfl
    · rw [Array.getElem?_eq_none (by rw [h1]; simp [hs]; omega), Array.getElem?_eq_none (by rw [wr_size hc]; omega)]
  subst e
  exact run_buildSlice W tWs tWr 1 #[(0, .agg (wrc k c))] (wrc k c) i z T.under T.info T.zero (by rw [hs]; omega) (by rw [hs]; omega) (by rw [hs] at hr ⊢; exact hr)

/-- A tray that was written to, and the error. -/
def Tray.write (n : Nat) (t : Tray (List UInt8)) (k : Int) (b : List UInt8) : Tray (List UInt8) × Int :=
  if k < 0 ∨ n ≤ k ∨ 128 < b.length then (t, 1) else if t.left = 0 then (t.dim, 20) else (t.put k (pad b), 0)
section
variable {w : World} {p n : Nat} {t : Tray (List UInt8)} {F : Nat → Prop}
theorem write_range {k : Int} {b : List UInt8} (h : ¬ (0 ≤ k ∧ k < n) ∨ 128 < b.length) : t.write n k b = (t, 1) := by
  unfold Tray.write
  rw [if_pos]
  rcases h with h | h
  · by_cases h0 : k < 0
    · exact .inl h0
    · exact .inr (.inl (by omega))
  · exact .inr (.inr h)
/-- The tray behind a write: the sector is set, the write lies behind the others. -/
theorem put_mem {x1 x2 x3 x4 : World} {k : Int} {b : List UInt8} (h : IsT w p n t F) {gn cn gk ck : Nat} {cv v : Value} (hl : Lay w p n t F gn cn gk ck cv) (h0 : 0 ≤ k) (h1 : k < n) (hb : b.length = 128)
    (e1 : x1 = w.setCells gn (k.toNat * 128) (Lib.byteCells b)) (b2 : Below x1.heap.size x1 x2) (r3 : x3.ownsRow 0 tWr 129 v (t.cache.length + 1) (wcells t.cache ++ (wrc k b).toList)) (g3 : x2.grownBy x3 cv.ownBlock) (n3 : NewRow x2 cv v)
    (e4 : x4 = x3.setCell ⟨p, 2, none⟩ v) : Turns F w x4 ∧ IsT x4 p n { t with cache := t.cache ++ [(k, b)] } (Grow F w x4) := by
  obtain ⟨a1, a2, a3⟩ := hl.apart
  obtain ⟨s1, t1⟩ := own_set (Lib.byteCells b) (k.toNat * 128) hl.now
  rw [← e1] at s1 t1
  have hc : ∀ q ∈ t.kept ++ t.cache, q.2.length = 128 := fun q hq => (List.mem_append.1 hq).elim (h.lenk q) fun hq => (h.lenc q hq).1
  rw [flat_set (disk_all hc) (by rw [disk_len]; omega) hb, disk_set, show ((k.toNat : Nat) : Int) = k by omega, List.append_assoc] at s1
  have t2 : Turns F w x2 := (t1.mono (G := F) fun _ _ e => by rw [e]; exact hl.fn).then_below b2
  have t3 : Turns F w x3 := t2.trans (Turns.of_grown (F := fun k => cv.ownBlock = some k) g3 fun k hk => hk) fun k _ hk => hl.fc k hk
  have t34 : Turns (fun k => k = p) x3 x4 := by rw [e4]; exact turn_set _ _ _ _
  have t4 : Turns F w x4 := t3.trans t34 fun _ _ e => by rw [e]; exact h.fp
  have hw1 : w.heap.size ≤ x1.heap.size := t1.size
  have hw2 : w.heap.size ≤ x2.heap.size := t2.size
  have h14 : Turns (fun k => k = p ∨ cv.ownBlock = some k) x1 x4 := ((Turns.of_below (F := fun k => k = p ∨ cv.ownBlock = some k) b2).trans (Turns.of_grown (F := fun k => cv.ownBlock = some k) g3 fun k hk => hk) fun _ _ e => .inr e).trans t34 fun _ _ e => .inl e
  have hbx : x3.heap[p]? = some (.cells (boxC n t gn cn gk ck cv) tTy (0, 0)) := by
    have u2 : x2.heap[p]? = some (.cells (boxC n t gn cn gk ck cv) tTy (0, 0)) := (b2.block p (by have := h.low p h.fp; omega)).trans (t1.heap hl.box a1)
    exact (Turns.of_grown (F := fun k => cv.ownBlock = some k) g3 fun k hk => hk).heap u2 fun e => (a3 p e).1 rfl
  refine ⟨t4, h.num, h.left, h.lenk, fun q hq => ?_, fun j hj => ?_, .inl h.fp, gn, cn, gk, ck, v, ?_, ?_, ?_, ?_, .inl hl.fn, .inl hl.fk, fun j hj => ?_, hl.ne⟩
  · rcases List.mem_append.1 hq with hq | hq
    · exact h.lenc q hq
    · rw [List.mem_singleton] at hq
      subst hq
      exact ⟨hb, h0, h1⟩
  · rcases hj with hj | hj
    · exact Nat.lt_of_lt_of_le (h.low j hj) t4.size
    · exact hj.2
  · rw [e4, box_set hbx]
    rfl
  · exact own_turn s1 h14 fun j hj e => by
      obtain rfl : gn = j := Option.some.inj hj
      rcases e with e | e
      · exact a1 e.symm
      · exact (a3 gn e).2.1 rfl
  · refine own_turn (own_turn hl.kept t1 fun j hj e => ?_) h14 fun j hj e => ?_
    · obtain rfl : gk = j := Option.some.inj hj
      exact hl.ne e.symm
    · obtain rfl : gk = j := Option.some.inj hj
      rcases e with e | e
      · exact a2 e.symm
      · exact (a3 gk e).2.2 rfl
  · have e : (t.cache ++ [(k, b)]).length = t.cache.length + 1 := by simp
    show x4.ownsRow 0 tWr 129 v (t.cache ++ [(k, b)]).length (wcells (t.cache ++ [(k, b)]))
    have e' : wcells (t.cache ++ [(k, b)]) = wcells t.cache ++ (wrc k b).toList := by rw [wcells_append]; simp [wcells, wrc]
    rw [e, e']
    refine own_turn r3 t34 fun j hj e => ?_
    subst e
    rcases n3 j hj with hj | hj
    · exact (a3 j hj).1 rfl
    · have := h.low j h.fp; omega
  · rcases n3 j hj with h' | h'
    · exact .inl (hl.fc j h')
    · refine .inr ⟨by omega, ?_⟩
      have := (r3.lt j hj).2
      have := t34.size
      omega

set_option maxHeartbeats 4000000 in
set_option maxRecDepth 100000 in
theorem write_any (k : Int) (v : Value) (b : List UInt8) (h : IsT w p n t F) (hv : Stay F w fun x => IsBytes x v b) (hc : t.cache.length ≤ 100000) : Calls Try.prog 30 #[ptr p, .int .i64 k, v] w fun e x =>
    e = .returned (.int .i64 (t.write n k b).2) ∧ Turns F w x ∧ IsT x p n (t.write n k b).1 (Grow F w x) := by
  obtain ⟨ao, cap, rfl, hb1, hb2, hrow⟩ := hv.now
  by_cases hk : 0 ≤ k ∧ k < n
  · by_cases hb : 128 < b.length
    · rw [write_range (.inr hb)]
      have HH := Lib.hid (has_any k h)
      have HD := Lib.hid (show decide (0 ≤ k ∧ k < n) = true by simp only [decide_eq_true_eq]; exact hk)
      have hg : (128 : Int) < (b.length : Int) := by omega
      have H := Lib.hid h
      clear h hk hb hrow hv
      go_enter Try.func30, Try.ntmps30
      go_wp2_with fail
      refine HH.out.mono ?_
      rintro e x ⟨rfl, rfl⟩
      rw [HD.out]
      go_wp2_with fail
      go_ret
      exact ⟨rfl, Turns.refl _ _, H.out.grow⟩
    · have HH := Lib.hid (has_any k h)
      have HD := Lib.hid (show decide (0 ≤ k ∧ k < n) = true by simp only [decide_eq_true_eq]; exact hk)
      have hg : ¬ (128 : Int) < (b.length : Int) := by omega
      have HS := Lib.hid (step_any h)
      have H := Lib.hid (And.intro h (And.intro hk hb))
      have HR := Lib.hid (show ∀ x, Turns (fun k => k = p) w x → b.length ≠ 0 → ∃ bb o, ao = some ⟨bb, o, none⟩ ∧ ∀ j u, (Lib.byteCells b)[j]? = some u → x.cell? ⟨bb, o + j, none⟩ = some u from fun x hx => by
        obtain ⟨ao', cap', e, -, -, hr⟩ := hv x (hx.mono fun _ _ e => by rw [e]; exact h.fp)
        obtain ⟨rfl, -, rfl⟩ := Value.slice.inj e
        exact hr)
      by_cases h0 : t.left = 0
      · have HE := Lib.hid (show decide (t.left ≠ 0) = false by simp [h0])
        rw [show t.write n k b = (t.dim, 20) by unfold Tray.write; rw [if_neg (by omega), if_pos h0]]
        have HQ := Lib.hid (show t.step = t.dim by unfold Tray.step; rw [if_pos h0])
        clear h hk hb hrow hv h0
        go_enter Try.func30, Try.ntmps30
        go_wp2_with fail
        refine HH.out.mono ?_
        rintro e x ⟨rfl, rfl⟩
        rw [HD.out]
        go_wp2_with fail
        refine HS.out.mono ?_
        rintro e x1 ⟨rfl, ht, hx⟩
        rw [HE.out]
        rw [HQ.out] at hx
        have HX := Lib.hid (And.intro ht hx)
        clear ht hx
        go_wp2_with fail
        go_ret
        exact ⟨rfl, HX.out.1.mono fun _ _ e => by rw [e]; exact H.out.1.fp, HX.out.2.grow⟩
      · have HE := Lib.hid (show decide (t.left ≠ 0) = true by simp [h0])
        rw [show t.write n k b = (t.put k (pad b), 0) by unfold Tray.write; rw [if_neg (by omega), if_neg h0]]
        have HQ := Lib.hid (show t.put k (pad b) = { t.step with cache := t.step.cache ++ [(k, pad b)] } by unfold Tray.put Tray.step; rw [if_neg h0, if_neg h0]; rfl)
        clear h hk hb hrow hv h0
        go_enter Try.func30, Try.ntmps30
        go_wp2_with fail
        refine HH.out.mono ?_
        rintro e x ⟨rfl, rfl⟩
        rw [HD.out]
        go_wp2_with fail
        refine HS.out.mono ?_
        rintro e x1 ⟨rfl, ht, hx⟩
        rw [HE.out]
        have HX := Lib.hid (And.intro ht hx)
        have hz := zero_wr
        have hw1 : (wrc 0 nul).setIfInBounds 0 (.int .i64 k) = wrc k nul := by simp [wrc]
        have hw2 : (wrc 0 nul).toList.set 0 (.int .i64 k) = (wrc k nul).toList := by simp [wrc]
        have hs0 := wr_size (b := nul) rfl 0
        have hw3 : ¬ wrc 0 nul = #[] := fun e => by rw [e] at hs0; cases hs0
        have hst := store_wr x1 x1.heap.size 0 k nul nul rfl rfl rfl
        have hsk := wr_size (b := nul) rfl k
        have hX1 := hx
        have HCp := Lib.hid (show (x1.alloc (.cells (wrc k nul) tWr)).heap[x1.heap.size]? = some (.cells (wrc k nul).toList.toArray tWr (0, 0)) ∧ Below x1.heap.size x1 (x1.alloc (.cells (wrc k nul) tWr)) ∧
            (0 < (Lib.byteCells b).length → ∃ ad, ao = some ad ∧ ∀ j v, (Lib.byteCells b)[j]? = some v → (x1.alloc (.cells (wrc k nul) tWr)).cell? (ad.add j) = some v) ∧ 1 + (Lib.byteCells b).length ≤ (wrc k nul).toList.length ∧ (Lib.byteCells b).length = Nat.min b.length 128 from by
          have hal : Below x1.heap.size x1 (x1.alloc (.cells (wrc k nul) tWr)) := (Below.refl _ _).alloc (Nat.le_refl _) _
          have e0 : (wrc k nul).toList.toArray = wrc k nul := by simp
          refine ⟨by rw [e0]; exact heap_alloc_new _ _, hal, fun hp => ?_, ?_, ?_⟩
          · obtain ⟨bb, o, rfl, hcell⟩ := HR.out x1 ht (by rw [Lib.byteCells_length] at hp; omega)
            refine ⟨_, rfl, fun j u hu => ?_⟩
            have := hcell j u hu
            rw [addp]
            exact (hal.cell (World.block_lt_of_cell? x1 _ this)).trans this
          · have e1 : (wrc k nul).toList.length = 129 := by rw [Array.length_toList]; exact hsk
            rw [e1, Lib.byteCells_length]
            have := H.out.2.2
            omega
          · rw [Lib.byteCells_length]; have := H.out.2.2; exact (Nat.min_eq_left (by omega)).symm)
        clear ht hx hX1 HR
        go_wp2_with (refine wpList_copy_splice rfl (.tmp 23) (.tmp 24) 22 22 rfl 5 Try.underlying22 (by kernel_rfl) _ _ _ _ _ _ rfl rfl x1.heap.size 1 (wrc k nul).toList tWr HCp.out.1 (Lib.byteCells b) HCp.out.2.2.2.2 (fun hp => ⟨rfl, HCp.out.2.2.1 hp⟩) HCp.out.2.2.2.1 (one_bytes b) x1.heap.size x1 HCp.out.2.1 (Nat.le_refl _) ?_)
        intro w2 HG2 hB2
        clear hw1 hw2 hw3 hs0 hst hsk hz
        have hG := HG2.out
        rw [splice_wr] at hG
        have HW := Lib.hid (And.intro hG (And.intro hB2 (HX.out.2.below hB2)))
        clear HG2 hB2 hG HCp
        obtain ⟨gn, cn, gk, ck, cv, hl⟩ := HW.out.2.2.mem
        obtain ⟨c0, -⟩ := boxC_cells hl.box
        have hk := H.out.2.1
        have hpl := pad_len (b := b) (by have := H.out.2.2; omega)
        obtain ⟨a1, a2, a3⟩ := hl.apart
        have hplt : p < w2.heap.size := HW.out.2.2.low p HW.out.2.2.fp
        have hglt : x1.heap.size < w2.heap.size := (Array.getElem?_eq_some_iff.1 HW.out.1).1
        have hgn : gn < x1.heap.size := HX.out.2.low gn hl.fn
        have HF := Lib.hid (show ∀ x, Below w2.heap.size w2 x → x.cell? ⟨p, 0, none⟩ = some (.slice (some ⟨gn, 0, none⟩) n cn) ∧ (Instr.loadAt tSe (.pointer (some ⟨x1.heap.size, 1, none⟩))).run Try.prog x = .ok (.agg (sec (pad b))) x from fun x hx =>
          ⟨(hx.cell (p := ⟨p, 0, none⟩) hplt).trans c0, load_se x _ 1 (pad b) hpl (wr_bytes ((hx.block x1.heap.size hglt).trans HW.out.1))⟩)
        have hdr : Below w2.heap.size w2 w2.drew := (Below.refl _ _).drew
        have HT := Lib.hid (show IsT w2.drew p n t.step F ∧ Lay w2.drew p n t.step F gn cn gk ck cv from ⟨HW.out.2.2.below hdr, hl.turn (G := fun _ => False) HW.out.2.2.fp (Turns.of_below hdr) fun _ _ h => h⟩)
        have hth : w2.drew.there gn (k.toNat * 128) (sec (pad b)).size := by rw [sec_size hpl]; exact own_there HT.out.2.now (by omega)
        have H3 := Lib.hid (own_set (Lib.byteCells (pad b)) (k.toNat * 128) HT.out.2.now)
        have hix := index_se gn n cn k hk.1 hk.2
        have hs8 := sec_size hpl
        have HTh := Lib.hid (And.intro hth (show (Try.prog.info? tSe).map (·.size) = some (sec (pad b)).size by rw [hs8]; exact info_se))
        have HG := Lib.hid (And.intro hgn (And.intro a1 (And.intro a3 (And.intro hplt hglt))))
        have HC := Lib.hid (And.intro hpl hc)
        clear hl c0 hk hpl a1 a2 a3 hplt hglt hgn hdr hth hc
        go_wp2_with fail
        refine Order.beginE (fun x => Below w2.heap.size w2 x) [8] (by kernel_rfl) ?_
        refine Order.readsE_any (idx := [0, 1, 2, 3, 4, 5, 6, 7]) (by kernel_rfl) (Below.refl _ _).drew (fun _ _ _ _ _ h => Order.noPanic_put h) 1 _ _ (by decide +kernel) ?_
        simp only [Order.pick, List.getElem?_toArray, List.getElem?_cons_zero, List.getElem?_cons_succ]
        repeat (first
          | (refine Order.reads_off (by rfl) ?_
             simp only [Act.put, List.setIfInBounds_toArray, List.set_cons_zero, List.set_cons_succ])
          | (apply Order.reads_on
             · rfl
             · intro x hx
               first
                 | (obtain ⟨q0, q1⟩ := HF.out x hx
                    exact Order.load_at rfl rfl (by assumption))
                 | (go_simp; rfl)
                 | (obtain ⟨q0, q1⟩ := HF.out x hx
                    go_simp; rfl)
             simp only [Act.put, List.setIfInBounds_toArray, List.set_cons_zero, List.set_cons_succ]))
        refine Order.reads_end ?_
        apply Order.lastE (i := 8)
        · rfl
        · decide +kernel
        · decide
        · rfl
        simp only [List.getElem_toArray, List.getElem_cons_succ, List.getElem_cons_zero]
        refine wp_store_mid tSe (.tmp 33) (.tmp 32) rfl gn (k.toNat * 128) (sec (pad b)) rfl rfl HTh.out.1 HTh.out.2 (sec_one _) ?_
        rw [show (sec (pad b)).toList = Lib.byteCells (pad b) by simp [sec]]
        obtain ⟨w3, e3⟩ : ∃ w3, w3 = w2.drew.setCells gn (k.toNat * 128) (Lib.byteCells (pad b)) := ⟨_, rfl⟩
        rw [← e3] at H3 ⊢
        refine Order.doneE (by decide +kernel) ?_ _
        refine NoPanic.normal ?_
        clear HTh HF hix hs8
        have hsz3 := H3.out.2.size
        have hd : w2.drew.heap.size = w2.heap.size := rfl
        have hg3 : w3.heap[x1.heap.size]? = some (.cells (wrc k (pad b)) tWr (0, 0)) := H3.out.2.heap (w := w2.drew) HW.out.1 (by have := HG.out.1; omega)
        have hp3 : w3.heap[p]? = some (.cells (boxC n t.step gn cn gk ck cv) tTy (0, 0)) := H3.out.2.heap HT.out.2.box HG.out.2.1
        have ho3 : w3.ownsRow 0 tWr 129 cv t.step.cache.length (wcells t.step.cache) := own_turn HT.out.2.cache H3.out.2 fun j hj => (HG.out.2.2.1 j hj).2.1
        have hnc : ∀ j, cv.ownBlock = some j → p ≠ j ∧ x1.heap.size ≠ j := fun j hj => ⟨(HG.out.2.2.1 j hj).1, fun e => by
          have h1 := HX.out.2.low j (HT.out.2.fc j hj)
          omega⟩
        have hg3l := (Array.getElem?_eq_some_iff.1 hg3).1
        have hp3l := (Array.getElem?_eq_some_iff.1 hp3).1
        have HF := Lib.hid (show ∀ x, Turns (fun j => cv.ownBlock = some j) w3 x → x.cell? ⟨p, 2, none⟩ = some cv ∧ (Instr.loadAt tWr (.pointer (some ⟨x1.heap.size, 0, none⟩))).run Try.prog x = .ok (.agg (wrc k (pad b))) x from fun x hx =>
          ⟨(boxC_cells (hx.heap hp3 fun e => (hnc p e).1 rfl)).2.2.1, load_wr x _ k (pad b) HC.out.1 (hx.heap hg3 fun e => (hnc _ e).2 rfl)⟩)
        have hbs := fun W => one_wr W k (pad b) HC.out.1
        obtain ⟨ao', cap', rfl⟩ := own_slice ho3
        obtain ⟨i0, z0, b0, T, hb0⟩ := wrElem
        have HO := Lib.hid (And.intro hp3 (And.intro ho3 (And.intro T hb0)))
        have HN := Lib.hid (And.intro hnc (And.intro hg3l hp3l))
        have HE3 := Lib.hid (And.intro e3 hsz3)
        clear hsz3 hd hg3 hp3 ho3 hnc hg3l hp3l T hb0 e3
        go_wp2_with fail
        refine Order.beginE (fun x => Turns (fun j => (Value.slice ao' t.step.cache.length cap').ownBlock = some j) w3 x) [8, 9, 10] (by kernel_rfl) ?_
        refine Order.readsE_any (idx := [0, 1, 2, 3, 4, 5]) (by kernel_rfl) (Turns.of_below (Below.refl _ _).drew) (fun _ _ _ _ _ h => Order.noPanic_put h) 5 _ _ (by decide +kernel) ?_
        simp only [Order.pick, List.getElem?_toArray, List.getElem?_cons_zero, List.getElem?_cons_succ]
        repeat (first
          | (refine Order.reads_off (by rfl) ?_
             simp only [Act.put, List.setIfInBounds_toArray, List.set_cons_zero, List.set_cons_succ])
          | (apply Order.reads_on
             · rfl
             · intro x hx
               first
                 | (obtain ⟨q0, q1⟩ := HF.out x hx
                    exact Order.load_at rfl rfl (by assumption))
                 | (go_simp; rfl)
                 | (obtain ⟨q0, q1⟩ := HF.out x hx
                    go_simp; rfl)
             simp only [Act.put, List.setIfInBounds_toArray, List.set_cons_zero, List.set_cons_succ]))
        refine Order.reads_end ?_
        apply Order.actE (i := 6)
        · rfl
        · decide +kernel
        · rfl
        simp only [List.getElem_toArray, List.getElem_cons_succ, List.getElem_cons_zero]
        refine Order.wp_lit1 rfl rfl (hbs _) ?_
        have hal : Below w3.heap.size w3 (w3.drew.alloc (.cells (wrc k (pad b)) tWr)) := (Below.refl _ _).drew.alloc (Nat.le_refl _) _
        refine ⟨Turns.of_below hal, ?_⟩
        obtain ⟨w4, e4⟩ : ∃ w4, w4 = w3.drew.alloc (.cells (wrc k (pad b)) tWr) := ⟨_, rfl⟩
        have hnew : w4.heap[w3.heap.size]? = some (.cells (wrc k (pad b)) tWr (0, 0)) := by rw [e4]; exact heap_alloc_new w3.drew _
        rw [← e4] at hal ⊢
        have H4 := Lib.hid (And.intro hal (And.intro hnew (own_below HO.out.2.1 hal)))
        clear e4 hal hnew hbs
        change Order.wpAnyE _ _ _ _ _ _ _ _ _ _
        apply Order.actE (i := 7)
        · rfl
        · decide +kernel
        · rfl
        simp only [List.getElem_toArray, List.getElem_cons_succ, List.getElem_cons_zero]
        refine wp_rows HO.out.2.2.1 _ _ rfl rfl rfl H4.out.2.2 (Nat.zero_le _) (m := 1) (news := (wrc k (pad b)).toList) (by rw [Array.length_toList, wr_size HC.out.1]) (fun j u hj => by rw [addp]; exact wr_range H4.out.2.1 j u hj) (one_write (k, pad b)) (by have := HC.out.2; rw [(step_parts t).2]; omega) (Nat.le_trans (Nat.mul_le_mul_left _ HO.out.2.2.2) (by have := HC.out.2; rw [(step_parts t).2]; omega)) ?_
        intro v' w5 o5 g5 n5
        obtain ⟨ao5, cap5, rfl⟩ := own_slice o5
        have t5 : Turns (fun j => (Value.slice ao' t.step.cache.length cap').ownBlock = some j) w3 w5 := (Turns.of_below H4.out.1).trans (Turns.of_grown (F := fun j => (Value.slice ao' t.step.cache.length cap').ownBlock = some j) g5 fun j hj => hj) fun _ _ h => h
        refine ⟨t5, ?_⟩
        have hp5 := t5.heap HO.out.1 fun e => (HN.out.1 p e).1 rfl
        obtain ⟨-, -, c2, -⟩ := boxC_cells hp5
        have f2 := boxC_free hp5 2
        have H5 := Lib.hid (And.intro t5 (And.intro o5 (And.intro g5 n5)))
        clear hp5 o5 g5 n5
        clear t5
        apply Order.lastE (i := 8)
        · rfl
        · decide +kernel
        · decide
        · rfl
        unfold Oper.wp
        go_simp
        apply Order.lastE (i := 9)
        · rfl
        · decide +kernel
        · decide
        · rfl
        unfold Oper.wp
        go_simp
        apply Order.lastE (i := 10)
        · rfl
        · decide +kernel
        · decide
        · rfl
        unfold Oper.wp
        go_simp
        refine Order.doneE (by decide +kernel) ?_ _
        refine NoPanic.normal ?_
        have hfin := put_mem HT.out.1 HT.out.2 H.out.2.1.1 H.out.2.1.2 HC.out.1 HE3.out.1 H4.out.1 H5.out.2.1 H5.out.2.2.1 H5.out.2.2.2 rfl
        clear c2 f2
        have HFin := Lib.hid hfin
        clear hfin
        go_wp2_with fail
        go_ret
        have h1 : Turns F x w2.drew := ((HX.out.1.mono (G := F) fun _ _ e => by rw [e]; exact H.out.1.fp).then_below HW.out.2.1).trans (Turns.of_below (F := F) (Below.refl _ _).drew) fun _ _ h => h
        refine ⟨rfl, h1.trans HFin.out.1 fun _ _ h => h, ?_⟩
        rw [HQ.out]
        exact HFin.out.2.mono (fun j hj => hj.elim .inl fun hj => .inr ⟨Nat.le_trans h1.size hj.1, hj.2⟩) fun j hj => hj.elim (fun hj => Nat.lt_of_lt_of_le (H.out.1.low j hj) (h1.trans HFin.out.1 fun _ _ h => h).size) fun hj => hj.2
  · rw [write_range (.inl hk)]
    have HH := Lib.hid (has_any k h)
    have HD := Lib.hid (show decide (0 ≤ k ∧ k < n) = false by simp only [decide_eq_false_iff_not]; exact hk)
    have H := Lib.hid h
    clear h hk hrow hv
    go_enter Try.func30, Try.ntmps30
    go_wp2_with fail
    refine HH.out.mono ?_
    rintro e x ⟨rfl, rfl⟩
    rw [HD.out]
    go_wp2_with fail
    go_ret
    exact ⟨rfl, Turns.refl _ _, H.out.grow⟩
end
end Ta
end Go.Proofs.Ytdodmjcbjknneaa
