/-
  Layer 14: the program's keep, walked.
-/
import Derived.Test.YtkfmmdiflbnhgaaHoPutI
namespace Go.Proofs.Ytkfmmdiflbnhgaa
set_option maxRecDepth 100000
open Go.RowKit Go.Shelf
open Knot (Turns)
open Ta (IsBytes Stay sec nul ptr IsT C5 Tray Grow)
attribute [local go_sem] Oper.semAt_some
namespace Ho
section
variable {w : World} {p n : Nat} {t : Tray (List UInt8)} {F : Nat → Prop}
set_option maxHeartbeats 16000000 in
set_option maxRecDepth 100000 in
theorem keep_any (m0 m1 m2 m3 m4 : Nat) (v : Value) (b : List UInt8) (h : IsT w p n t F) (h64 : 64 ≤ n) (hm : ∀ m ∈ [m0, m1, m2, m3, m4], m < 9223372036854775808) (hm2 : m2 ≤ 1) (hv : Stay F w fun x => IsBytes x v b) (hb : b.length ≤ qu n * 128) (hc : t.cache.length ≤ 80000) :
    Calls Try.prog 67 #[dkV p (qu n), v, .agg (mcs [m0, m1, m2, m3, m4])] w fun e x => e = .returned (.bool (decide ((keepT (2 + m2 * qu n) b [m0, m1, m2, m3, m4] t).2 = 0))) ∧ Turns F w x ∧ ∃ F', IsT x p n (keepT (2 + m2 * qu n) b [m0, m1, m2, m3, m4] t).1 F' ∧ (∀ k, F' k → F k ∨ w.heap.size ≤ k) := by
  have hn := h.num
  have hq : qu n = (n - 2) / 4 := rfl
  have hq4 : 2 + 2 * qu n ≤ n := by omega
  have HV := Lib.hid hv
  obtain ⟨ao, cap, rfl, hcap, -, -⟩ := hv.now
  have HFi := Lib.hid (fun x => dfirst_any (p := p) (s := qu n) m2 (by omega) (by omega) x)
  have HI := Lib.hid (And.intro h (And.intro hc (And.intro hm hcap)))
  have HQ := Lib.hid (And.intro hq (And.intro hb hm2))
  clear h hc hm hv hb hq hcap
  have ha1 : 2 + m2 * qu n + qu n ≤ n := by
    have : m2 * qu n ≤ 1 * qu n := Nat.mul_le_mul_right _ hm2
    omega
  obtain ⟨a, ha⟩ : ∃ a, a = 2 + m2 * qu n := ⟨_, rfl⟩
  rw [← ha] at HFi ha1 ⊢
  clear ha
  generalize qu n = s at *
  unfold dkV at *
  rw [mcs5]
  refine (callsIn_wide (n := 9)).1 ?_
  refine callsIn_of_wp_marks Try.func67 rfl trivial ?_ rfl
  simp only [Try.ntmps67, List.size_toArray, List.length_cons, List.length_nil, Nat.reduceAdd, Nat.reduceSub, Array.replicate_succ, Array.replicate_zero, List.push_toArray, List.append_toArray, List.nil_append, List.cons_append]
  gi_wp2_with (refine ⟨trivial, ?_⟩; gi_at_call 84; refine (callsIn_wide.2 (HFi.out _)).mono ?_; rintro e x1 ⟨rfl, hx1⟩)
  refine ⟨trivial, (callsIn_wide.2 (chunk_any ao b.length cap _)).mono ?_⟩
  rintro e x2 ⟨rfl, rfl⟩
  obtain ⟨X, hX⟩ : ∃ X, X = ((w.alloc (.cells #[ptr p, .int .i64 (s : Int)] tDk)).alloc (.cells #[.int .i64 (m0 : Int), .int .i64 (m1 : Int), .int .i64 (m2 : Int), .int .i64 (m3 : Int), .int .i64 (m4 : Int)] tPm)).alloc (.cells #[.bool false] 4) := ⟨_, rfl⟩
  change Below (((w.alloc (.cells #[ptr p, .int .i64 (s : Int)] tDk)).alloc (.cells #[.int .i64 (m0 : Int), .int .i64 (m1 : Int), .int .i64 (m2 : Int), .int .i64 (m3 : Int), .int .i64 (m4 : Int)] tPm)).alloc (.cells #[.bool false] 4)).heap.size (((w.alloc (.cells #[ptr p, .int .i64 (s : Int)] tDk)).alloc (.cells #[.int .i64 (m0 : Int), .int .i64 (m1 : Int), .int .i64 (m2 : Int), .int .i64 (m3 : Int), .int .i64 (m4 : Int)] tPm)).alloc (.cells #[.bool false] 4)) x1 at hx1
  rw [← hX] at hx1
  have hXs : X.heap.size = w.heap.size + 1 + 1 + 1 ∧ Below w.heap.size w X ∧ X.heap[w.heap.size]? = some (.cells #[ptr p, .int .i64 (s : Int)] tDk (0, 0)) ∧ C5 (w.heap.size + 1) tPm (.int .i64 (m0 : Int)) (.int .i64 (m1 : Int)) (.int .i64 (m2 : Int)) (.int .i64 (m3 : Int)) (.int .i64 (m4 : Int)) X ∧ X.heap[w.heap.size + 1 + 1]? = some (.cells #[.bool false] 4 (0, 0)) := by
    rw [hX]
    generalize hA : w.alloc (.cells #[ptr p, .int .i64 (s : Int)] tDk) = X1
    have a1 : Below w.heap.size w X1 := by rw [← hA]; exact (Below.refl _ _).alloc (Nat.le_refl _) _
    have c1 : X1.heap[w.heap.size]? = some (.cells #[ptr p, .int .i64 (s : Int)] tDk (0, 0)) := by rw [← hA]; exact heap_alloc_new w _
    have s1 : X1.heap.size = w.heap.size + 1 := by rw [← hA]; simp
    generalize hB : X1.alloc (.cells #[.int .i64 (m0 : Int), .int .i64 (m1 : Int), .int .i64 (m2 : Int), .int .i64 (m3 : Int), .int .i64 (m4 : Int)] tPm) = X2
    have a2 : Below X1.heap.size X1 X2 := by rw [← hB]; exact (Below.refl _ _).alloc (Nat.le_refl _) _
    have c2 : C5 (w.heap.size + 1) tPm (.int .i64 (m0 : Int)) (.int .i64 (m1 : Int)) (.int .i64 (m2 : Int)) (.int .i64 (m3 : Int)) (.int .i64 (m4 : Int)) X2 := by rw [← hB, ← s1]; exact heap_alloc_new X1 _
    have s2 : X2.heap.size = w.heap.size + 1 + 1 := by rw [← hB]; simp [s1]
    have a3 : Below X2.heap.size X2 (X2.alloc (.cells #[.bool false] 4)) := (Below.refl _ _).alloc (Nat.le_refl _) _
    have c3 : (X2.alloc (.cells #[.bool false] 4)).heap[w.heap.size + 1 + 1]? = some (.cells #[.bool false] 4 (0, 0)) := by rw [← s2]; exact heap_alloc_new X2 _
    exact ⟨by simp [s2], (a1.trans (a2.mono a1.size)).trans (a3.mono (by omega)), (a3.block _ (by omega)).trans ((a2.block _ (by omega)).trans c1), c2.on a3, c3⟩
  clear hX
  obtain ⟨L, hL⟩ : ∃ L, L = ((x1.alloc (.cells #[.int .i64 (a : Int)] 3)).alloc (.cells #[.slice ao b.length cap] tBy)).alloc (.cells #[.int .i64 128] 3) := ⟨_, rfl⟩
  have HL := Lib.hid (show (L.heap.size = x1.heap.size + 1 + 1 + 1 ∧ Below w.heap.size w L ∧ w.heap.size + 1 + 1 < x1.heap.size) ∧ L.heap[w.heap.size]? = some (.cells #[ptr p, .int .i64 (s : Int)] tDk (0, 0)) ∧ C5 (w.heap.size + 1) tPm (.int .i64 (m0 : Int)) (.int .i64 (m1 : Int)) (.int .i64 (m2 : Int)) (.int .i64 (m3 : Int)) (.int .i64 (m4 : Int)) L ∧ L.heap[w.heap.size + 1 + 1]? = some (.cells #[.bool false] 4 (0, 0)) ∧
      L.heap[x1.heap.size]? = some (.cells #[.int .i64 (a : Int)] 3 (0, 0)) ∧ L.heap[x1.heap.size + 1]? = some (.cells #[.slice ao b.length cap] tBy (0, 0)) ∧ L.heap[x1.heap.size + 1 + 1]? = some (.cells #[.int .i64 128] 3 (0, 0)) from by
    rw [hL]
    generalize hA : x1.alloc (.cells #[.int .i64 (a : Int)] 3) = X1
    have a1 : Below x1.heap.size x1 X1 := by rw [← hA]; exact (Below.refl _ _).alloc (Nat.le_refl _) _
    have c1 : X1.heap[x1.heap.size]? = some (.cells #[.int .i64 (a : Int)] 3 (0, 0)) := by rw [← hA]; exact heap_alloc_new x1 _
    have s1 : X1.heap.size = x1.heap.size + 1 := by rw [← hA]; simp
    generalize hB : X1.alloc (.cells #[.slice ao b.length cap] tBy) = X2
    have a2 : Below X1.heap.size X1 X2 := by rw [← hB]; exact (Below.refl _ _).alloc (Nat.le_refl _) _
    have c2 : X2.heap[x1.heap.size + 1]? = some (.cells #[.slice ao b.length cap] tBy (0, 0)) := by rw [← hB, ← s1]; exact heap_alloc_new X1 _
    have s2 : X2.heap.size = x1.heap.size + 1 + 1 := by rw [← hB]; simp [s1]
    have a3 : Below X2.heap.size X2 (X2.alloc (.cells #[.int .i64 128] 3)) := (Below.refl _ _).alloc (Nat.le_refl _) _
    have c3 : (X2.alloc (.cells #[.int .i64 128] 3)).heap[x1.heap.size + 1 + 1]? = some (.cells #[.int .i64 128] 3 (0, 0)) := by rw [← s2]; exact heap_alloc_new X2 _
    have b1 : Below x1.heap.size x1 (X2.alloc (.cells #[.int .i64 128] 3)) := (a1.trans (a2.mono a1.size)).trans (a3.mono (by omega))
    have hX1 := hx1.trans (b1.mono hx1.size)
    have hsz := hx1.size
    exact ⟨⟨by simp [s2], hXs.2.1.trans (hX1.mono hXs.2.1.size), by omega⟩, (hX1.block _ (by omega)).trans hXs.2.2.1, hXs.2.2.2.1.on hX1, (hX1.block _ (by omega)).trans hXs.2.2.2.2, (a3.block _ (by omega)).trans ((a2.block _ (by omega)).trans c1), (a3.block _ (by omega)).trans c2, c3⟩)
  rw [show (x1.alloc (.cells #[.int .i64 (a : Int)] 3)).heap.size = x1.heap.size + 1 by simp, ← hL]
  clear hL hx1 hXs HFi
  obtain ⟨Rb, hRb⟩ : ∃ R, R = w.heap.size + 1 + 1 := ⟨_, rfl⟩
  obtain ⟨Mk, hMk⟩ : ∃ R, R = w.heap.size + 1 := ⟨_, rfl⟩
  obtain ⟨At, hAt⟩ : ∃ R, R = x1.heap.size := ⟨_, rfl⟩
  rw [← hRb, ← hMk, ← hAt] at HL ⊢
  have HO := Lib.hid (show w.heap.size < Mk ∧ Mk < Rb ∧ Rb < At ∧ L.heap.size = At + 1 + 1 + 1 ∧ Below w.heap.size w L from ⟨by omega, by omega, HL.out.1.2.2, HL.out.1.1, HL.out.1.2.1⟩)
  replace HL := Lib.hid HL.out.2
  clear hRb hMk hAt X x1
  gi_wp2
  refine wpIn_rangeFunc_ownG rfl (by omega) (gf := 93) (lb := #[.pointer (some ⟨At + 1, 0, none⟩), .pointer (some ⟨At + 1 + 1, 0, none⟩)]) rfl trivial (enters_of Try.func93 (by kernel_rfl) rfl)
    (chunk_stops _ (by omega) (At + 1) (At + 1 + 1) ao b.length cap HI.out.2.2.2 (by have := HQ.out; omega) L HL.out.2.2.2.2.1 HL.out.2.2.2.2.2) (fun h k => h.t k) (fun W l o o' hl h1 h2 h3 => ⟨World.putObj_heap_other (by have := HO.out; omega), World.putObj_heap_other (by have := HO.out; omega)⟩) (Below.refl _ _) (fun _ => rfl)
    (fun pre W => Goes a b t (pre.map Fin.val) ∧ Wi L p n F At Rb ((a + pre.length : Nat) : Int) (pt a b t (pre.map Fin.val)) W)
    (fun c pre W => c = .ret ∧ ∃ q x, pre = q ++ [x] ∧ Goes a b t (q.map Fin.val) ∧ (pt a b t (q.map Fin.val)).left = 0 ∧ Wi L p n F At Rb ((a + q.length : Nat) : Int) (pt a b t (q.map Fin.val)).dim W)
    (fun s A B row hs hg hr => ⟨hs.1, hs.2.own hg hr⟩)
    (fun c s A B row hs hg hr => by
      obtain ⟨h1, q, x, h2, h3, h4, h5⟩ := hs
      exact ⟨h1, q, x, h2, h3, h4, h5.own hg hr⟩)
    ⟨fun k hk => absurd hk (Nat.not_lt_zero _), ?start⟩
    (fun x => { tmps := #[.agg #[ptr p, .int .i64 (s : Int)], .slice ao b.length cap, .agg #[.int .i64 (m0 : Int), .int .i64 (m1 : Int), .int .i64 (m2 : Int), .int .i64 (m3 : Int), .int .i64 (m4 : Int)], .pointer (some ⟨w.heap.size, 0, none⟩), undef, .pointer (some ⟨Mk, 0, none⟩), .pointer (some ⟨Rb, 0, none⟩), .pointer (some ⟨At, 0, none⟩), chV ao b.length x.1, .agg #[ptr p, .int .i64 (s : Int)], .pointer (some ⟨Mk, 2, none⟩), .int .i64 (m2 : Int), .int .i64 (a : Int), .slice ao b.length cap,
      .func (.func 93) #[] #[.pointer (some ⟨At + 1, 0, none⟩), .pointer (some ⟨At + 1 + 1, 0, none⟩)], chV ao b.length x.1, undef, undef, undef, undef, undef, undef, undef, undef, undef, undef, undef, undef, undef, undef, undef, undef, undef], defers := [] }) ?assign ?body ?done ?stop
  case start =>
    obtain ⟨F0, f1, f2, f3⟩ := (HI.out.1.below HO.out.2.2.2.2).small
    exact ⟨⟨F0, f2, fun k hk => .inl (f1 k hk), f3⟩, Turns.refl _ _, HL.out.2.2.2.1, HL.out.2.2.1⟩
  case assign =>
    intro l x W K hK
    gi_wp2
    exact hK
  case body =>
    rintro l pre x W ⟨hg, hW⟩ hlen
    obtain ⟨F', hi, hF', hc'⟩ := hW.tray
    have hlow := HI.out.1.low
    obtain ⟨o1, o2, o3, o4, o5⟩ := HO.out
    have hA : ¬ F At ∧ At < L.heap.size := ⟨fun hk => by have := hlow _ hk; omega, by omega⟩
    have hR : ¬ F Rb ∧ Rb < L.heap.size := ⟨fun hk => by have := hlow _ hk; omega, by omega⟩
    have hoff : ∀ k, w.heap.size ≤ k → k < L.heap.size → ¬ F' k := fun k h1 h2 hk => by
      rcases hF' k hk with h3 | h3
      · have := hlow k h3; omega
      · omega
    have hsz := hW.turn.size
    have d0 : W.cell? ⟨w.heap.size, 0, none⟩ = some (ptr p) := by
      rw [Lib.cell_of_heap (hW.turn.heap HL.out.1 (by rintro (h1 | h1 | h1 | h1); have := hlow _ h1; all_goals omega))]
      rfl
    have a0 : W.cell? ⟨At, 0, none⟩ = some (.int .i64 ((a + pre.length : Nat) : Int)) := by rw [Lib.cell_of_heap hW.at_]; rfl
    have hN : tk b.length ≤ s := by
      have := HQ.out
      unfold tk
      omega
    have hvW : Stay F' W fun y => IsBytes y (chV ao b.length x.1) (chk b x.1) := fun y hy => chV_bytes (HV.out y (((Turns.of_below o5).trans hW.turn fun k hk h1 => by
        rcases h1 with h1 | h1 | h1 | h1
        · exact h1
        all_goals omega).trans hy fun k hk h1 => (hF' k h1).elim id fun h2 => by have := o5.size; omega)) (tk_lt.1 x.2)
    have hct : (pt a b t (pre.map Fin.val)).cache.length ≤ 100000 := by
      have h1 := pt_cache a b t (pre.map Fin.val)
      have := HI.out.2.1
      rw [List.length_map] at h1
      omega
    have hWr := Ta.write_any ((a + pre.length : Nat) : Int) (chV ao b.length x.1) (chk b x.1) hi hvW hct
    rw [write_part (show a + pre.length < n by omega) (chk_le b x.1)] at hWr
    have hpl : (pre.map Fin.val).length = pre.length := List.length_map _
    have hsn : pt a b t ((pre ++ [x]).map Fin.val) = (pt a b t (pre.map Fin.val)).put ((a + pre.length : Nat) : Int) (Ta.pad (chk b x.1)) := by
      rw [List.map_append, List.map_cons, List.map_nil, pt_snoc, hpl]
    have hgs : (pt a b t (pre.map Fin.val)).left ≠ 0 → Goes a b t ((pre ++ [x]).map Fin.val) := fun h0 => by
      rw [List.map_append, List.map_cons, List.map_nil]
      exact hg.snoc _ _ _ h0 _
    rw [← hsn] at hWr
    have HHi := Lib.hid (And.intro hg (And.intro hW (And.intro hF' (And.intro hc' (And.intro hA (And.intro hR (And.intro hoff (And.intro hgs hsz))))))))
    have hchs : ∃ q1 q2, chV ao b.length x.1 = .slice q1 q2 q2 := ⟨_, _, rfl⟩
    obtain ⟨q1, q2, hch⟩ := hchs
    rw [hch] at hWr ⊢
    have HHc := Lib.hid (And.intro hch hvW)
    clear hch hvW hsn
    have hB1 : a + pre.length < n := by omega
    have hB2 : n ≤ 4096 := hn.2
    clear hg hW hF' hc' hoff hgs hsz hct hi
    by_cases h0 : (pt a b t (pre.map Fin.val)).left = 0
    · rw [if_pos h0, if_pos h0] at hWr
      have HWr := Lib.hid hWr
      have hne : ((20 : Int) != 0) = true := rfl
      clear hWr
      gi_wp2
      refine ⟨trivial, (CallsIn.inRound l (callsIn_wide.2 HWr.out)).mono ?_⟩
      rintro e x1 ⟨rfl, ht1, hi1⟩
      obtain ⟨g1, g2, g3, g4, g5, g6, g7, g8, g9⟩ := HHi.out
      have hw1 := g2.wrote g5 g6 g3 ht1 hi1 fun k hk => hk.imp id fun h => h.1
      have r0 : x1.cell? ⟨Rb, 0, none⟩ = some (.bool false) := by rw [Lib.cell_of_heap hw1.res]; rfl
      have r1 : x1.frozen? ⟨Rb, 0, none⟩ = false := Lib.frozen_of_heap hw1.res 0
      have HEn := Lib.hid (And.intro (hw1.no g6 (by omega)) (keeps_of L.heap.size ht1 g4))
      clear hw1 ht1 hi1 g1 g2 g3 g4 g5 g6 g7 g8 g9 HWr
      gi_wp2
      exact ⟨HEn.out.2.trans ((KeepsOthers.setCell _ _ _).from _), rfl, pre, x, rfl, HHi.out.1, h0, HEn.out.1⟩
    · rw [if_neg h0, if_neg h0] at hWr
      have HWr := Lib.hid hWr
      have hne : ((0 : Int) != 0) = false := rfl
      clear hWr
      gi_wp2
      refine ⟨trivial, (CallsIn.inRound l (callsIn_wide.2 HWr.out)).mono ?_⟩
      rintro e x1 ⟨rfl, ht1, hi1⟩
      obtain ⟨g1, g2, g3, g4, g5, g6, g7, g8, g9⟩ := HHi.out
      have hw1 := g2.wrote g5 g6 g3 ht1 hi1 fun k hk => hk.imp id fun h => h.1
      have r0 : x1.cell? ⟨At, 0, none⟩ = some (.int .i64 ((a + pre.length : Nat) : Int)) := by rw [Lib.cell_of_heap hw1.at_]; rfl
      have r1 : x1.frozen? ⟨At, 0, none⟩ = false := Lib.frozen_of_heap hw1.at_ 0
      have HEn := Lib.hid (And.intro (hw1.step g5 (by omega) ((a : Int) + (pre.length : Int) + 1)) (And.intro (keeps_of L.heap.size ht1 g4) (show Kq (At + 1) (At + 1 + 1) W (x1.setCell ⟨At, 0, none⟩ (.int .i64 ((a : Int) + (pre.length : Int) + 1))) from
        (kq_of ht1 ⟨by omega, g7 _ (by omega) (by omega)⟩ ⟨by omega, g7 _ (by omega) (by omega)⟩).t (kq_of ((Turns.refl (fun k => k = At) x1).setCell (p := ⟨At, 0, none⟩) rfl _) ⟨by have := ht1.size; omega, by omega⟩ ⟨by have := ht1.size; omega, by omega⟩))))
      clear hw1 ht1 hi1 g1 g2 g3 g4 g5 g6 g7 g8 g9 HWr
      gi_wp2
      refine ⟨HEn.out.2.1.trans ((KeepsOthers.setCell _ _ _).from _), HEn.out.2.2, HHi.out.2.2.2.2.2.2.2.1 h0, ?_⟩
      rw [show ((a + (pre ++ [x]).length : Nat) : Int) = (a : Int) + (pre.length : Int) + 1 by rw [List.length_append, List.length_singleton]; omega]
      exact HEn.out.1
  case done =>
    rintro D xs W hD hxs ⟨hg, hW⟩ hK
    rw [hxs] at hg hW
    have hfw := fwr_all a b t hg
    have hcT := pt_cache a b t (List.range (tk b.length))
    rw [List.length_range] at hcT
    generalize pt a b t (List.range (tk b.length)) = T at *
    have hN : tk b.length ≤ s := by
      have := HQ.out
      unfold tk
      omega
    have hfi : fieldT a b t = (T.flush, if T.left = 0 then 20 else 0) := by
      unfold fieldT
      rw [show takes b = tk b.length from rfl, hfw]
      rfl
    obtain ⟨F', hi, hF', hc'⟩ := hW.tray
    have hlow := HI.out.1.low
    obtain ⟨o1, o2, o3, o4, o5⟩ := HO.out
    have hoff : ∀ k, w.heap.size ≤ k → k < L.heap.size → ¬ F' k := fun k h1 h2 hk => by
      rcases hF' k hk with h3 | h3
      · have := hlow k h3; omega
      · omega
    have hsz := hW.turn.size
    have hDF : ¬ F' D := fun hk => by
      obtain ⟨o, h1, h2⟩ := hc' D hk
      rw [hK] at h1
      obtain rfl := Option.some.inj h1
      cases h2
    have hkD : W.heap[w.heap.size]? = some (.cells #[ptr p, .int .i64 (s : Int)] tDk (0, 0)) := hW.turn.heap HL.out.1 (by rintro (h1 | h1 | h1 | h1); have := hlow _ h1; all_goals omega)
    have hkM : C5 Mk tPm (.int .i64 (m0 : Int)) (.int .i64 (m1 : Int)) (.int .i64 (m2 : Int)) (.int .i64 (m3 : Int)) (.int .i64 (m4 : Int)) W := hW.turn.heap HL.out.2.1 (by rintro (h1 | h1 | h1 | h1); have := hlow _ h1; all_goals omega)
    have hwW : Turns F w W := (Turns.of_below o5).trans hW.turn fun k hk h1 => by
      rcases h1 with h1 | h1 | h1 | h1
      · exact h1
      all_goals omega
    -- what is held behind whatever turns of F'
    have hEnd : ∀ x y, Turns F' W x → Turns (fun k => k = Rb ∨ k = D) x y → ∀ (u : Tray (List UInt8)) (F1 : Nat → Prop), IsT x p n u F1 → (∀ k, F1 k → F' k ∨ W.heap.size ≤ k) → Turns F w y ∧ ∃ F2, IsT y p n u F2 ∧ ∀ k, F2 k → F k ∨ w.heap.size ≤ k := fun x y hx hy u F1 h1 h2 => by
      have hws := o5.size
      have hDW : D < W.heap.size := (Array.getElem?_eq_some_iff.1 hK).1
      refine ⟨(hwW.trans hx fun k hk h3 => (hF' k h3).elim id fun h4 => by omega).trans hy fun k hk h3 => by omega, F1, h1.turn hy fun k hk h3 => ?_, fun k hk => ?_⟩
      · rcases h2 k hk with h4 | h4
        · rcases h3 with rfl | rfl
          · exact hoff _ (by omega) (by omega) h4
          · exact hDF h4
        · omega
      · rcases h2 k hk with h4 | h4
        · exact (hF' k h4).imp id fun h5 => by omega
        · right; omega
    have hRbW := hW.res
    have HD := Lib.hid (And.intro hEnd (And.intro hK (And.intro hDF (And.intro hkD (And.intro hkM (And.intro hRbW (And.intro hoff hi)))))))
    have d0 : W.cell? ⟨w.heap.size, 0, none⟩ = some (ptr p) := by rw [Lib.cell_of_heap hkD]; rfl
    have hFl := Ta.flush_any hi (by have := HI.out.2.1; omega)
    clear hEnd hK hDF hkD hkM hRbW hi hwW hW hF' hc' hsz
    by_cases h0 : T.left = 0
    · have HRs := Lib.hid (show keepT a b [m0, m1, m2, m3, m4] t = (T.flush, 20) from by
        unfold keepT
        rw [hfi, if_pos h0, if_neg (show ¬ (20 : Int) = 0 by decide)])
      rw [if_pos h0] at hFl
      have HFl := Lib.hid hFl
      have hne : ((20 : Int) == 0) = false := rfl
      clear hFl hfi hfw hg hcT
      gi_wp2
      refine ⟨trivial, (callsIn_wide.2 HFl.out).mono ?_⟩
      rintro e x1 ⟨rfl, ht1, hi1⟩
      have hr1 := ht1.heap HD.out.2.2.2.2.2.1 (HD.out.2.2.2.2.2.2.1 _ (by omega) (by omega))
      have r0 : x1.cell? ⟨Rb, 0, none⟩ = some (.bool false) := by rw [Lib.cell_of_heap hr1]; rfl
      have r1 : x1.frozen? ⟨Rb, 0, none⟩ = false := Lib.frozen_of_heap hr1 0
      have h2 := heap_setCell_same x1 Rb 0 _ _ (.bool false) hr1
      have ht2 : Turns (fun k => k = Rb) x1 (x1.setCell ⟨Rb, 0, none⟩ (.bool false)) := (Turns.refl (fun k => k = Rb) x1).setCell (p := ⟨Rb, 0, none⟩) rfl _
      have hK1 := ht2.heap (ht1.heap HD.out.2.1 HD.out.2.2.1) (show ¬ D = Rb by omega)
      have ht3 := put_turns (x1.setCell ⟨Rb, 0, none⟩ (.bool false)) D (.deferred none)
      have h3 := ht3.heap h2 (show ¬ Rb = D by omega)
      have hEn := HD.out.1 x1 _ ht1 ((ht2.mono fun _ _ h => .inl h).trans (ht3.mono fun _ _ h => .inr h) fun _ _ h => h) T.flush F' hi1 fun k hk => .inl hk
      have HEn := Lib.hid (And.intro hK1 (And.intro h3 hEn))
      clear ht1 hi1 hr1 h2 ht2 hK1 ht3 h3 hEn HFl
      gi_wp2
      refine ⟨trivial, ?_⟩
      gi_wp2
      refine ⟨by simp, .inl ⟨_, _, rfl, run_takeDeferred HEn.out.1, ?_⟩⟩
      have z0 := Lib.cell_of_heap HEn.out.2.1 0
      simp at z0
      refine ⟨.bool false, by simp [results, Try.results67, go_sem, z0], ?_⟩
      rw [HRs.out]
      exact ⟨rfl, HEn.out.2.2⟩
    · rw [if_neg h0] at hFl
      have HFl := Lib.hid hFl
      have hne : ((0 : Int) == 0) = true := rfl
      have hcf : T.flush.cache.length ≤ 90000 := by
        unfold Tray.flush
        rw [if_neg h0]
        exact Nat.zero_le _
      have HRs := Lib.hid (show keepT a b [m0, m1, m2, m3, m4] t = setT T.flush [m0, m1, m2, m3, m4] from by
        unfold keepT
        rw [hfi, if_neg h0, if_pos rfl])
      clear hFl hfi hfw hg hcT
      gi_wp2
      refine ⟨trivial, (callsIn_wide.2 HFl.out).mono ?_⟩
      rintro e x1 ⟨rfl, ht1, hi1⟩
      have hkD1 := ht1.heap HD.out.2.2.2.1 (HD.out.2.2.2.2.2.2.1 _ (by omega) (by omega))
      have d0 := Lib.cell_of_heap hkD1 0
      have d1 := Lib.cell_of_heap hkD1 1
      simp only [List.getElem?_toArray, List.getElem?_cons_zero, List.getElem?_cons_succ] at d0 d1
      obtain ⟨c0, c1, c2, c3, c4⟩ := Ta.C5.cells (T := tPm) (ht1.heap HD.out.2.2.2.2.1 (HD.out.2.2.2.2.2.2.1 _ (by omega) (by omega)))
      have hSt := set_any (s := s) m0 m1 m2 m3 m4 hi1 HI.out.2.2.1 hcf
      rw [mcs5] at hSt
      unfold dkV at hSt
      have HSt := Lib.hid (And.intro hSt ht1)
      clear hSt ht1 hkD1 hi1 HFl
      gi_wp2
      refine ⟨trivial, (callsIn_wide.2 HSt.out.1).mono ?_⟩
      rintro e x2 ⟨rfl, ht2', F1, hi2, hF1⟩
      have ht12 := HSt.out.2.trans ht2' fun _ _ h => h
      have hs1 := HSt.out.2.size
      have hr1 := ht12.heap HD.out.2.2.2.2.2.1 (HD.out.2.2.2.2.2.2.1 _ (by omega) (by omega))
      have r0 : x2.cell? ⟨Rb, 0, none⟩ = some (.bool false) := by rw [Lib.cell_of_heap hr1]; rfl
      have r1 : x2.frozen? ⟨Rb, 0, none⟩ = false := Lib.frozen_of_heap hr1 0
      obtain ⟨rb, hrb⟩ : ∃ rb : Bool, rb = decide ((setT T.flush [m0, m1, m2, m3, m4]).2 = 0) := ⟨_, rfl⟩
      rw [← hrb]
      have HRb := Lib.hid hrb
      clear hrb
      have h2 := heap_setCell_same x2 Rb 0 _ _ (.bool rb) hr1
      have ht2 : Turns (fun k => k = Rb) x2 (x2.setCell ⟨Rb, 0, none⟩ (.bool rb)) := (Turns.refl (fun k => k = Rb) x2).setCell (p := ⟨Rb, 0, none⟩) rfl _
      have hK1 := ht2.heap (ht12.heap HD.out.2.1 HD.out.2.2.1) (show ¬ D = Rb by omega)
      have ht3 := put_turns (x2.setCell ⟨Rb, 0, none⟩ (.bool rb)) D (.deferred none)
      have h3 := ht3.heap h2 (show ¬ Rb = D by omega)
      have hEn := HD.out.1 x2 _ ht12 ((ht2.mono fun _ _ h => .inl h).trans (ht3.mono fun _ _ h => .inr h) fun _ _ h => h) _ F1 hi2 fun k hk => (hF1 k hk).imp id fun h => Nat.le_trans hs1 h
      have HEn := Lib.hid (And.intro hK1 (And.intro h3 hEn))
      clear ht2' hi2 hr1 h2 ht2 hK1 ht3 h3 hEn HSt hF1 ht12
      gi_wp2
      refine ⟨by simp, .inl ⟨_, _, rfl, run_takeDeferred HEn.out.1, ?_⟩⟩
      have z0 := Lib.cell_of_heap HEn.out.2.1 0
      simp at z0
      refine ⟨.bool rb, by simp [results, Try.results67, go_sem, z0], ?_⟩
      rw [HRs.out]
      exact ⟨by rw [HRb.out], HEn.out.2.2⟩
  case stop =>
    rintro D c pre W hD ⟨k, hk, hpr⟩ ⟨rfl, q, x, rfl, hg, h0, hW⟩ hK
    have hqk : k = q.length + 1 := by
      have := congrArg List.length hpr
      simp at this
      omega
    have hqr : q.map Fin.val = List.range q.length := by
      rw [hqk, List.range_succ, List.map_append] at hpr
      exact (List.append_inj hpr (by simp)).1
    rw [hqr] at hg h0 hW
    have hfw := fwr_part a b t (N := tk b.length) (by omega) hg h0
    have HRs := Lib.hid (show keepT a b [m0, m1, m2, m3, m4] t = ((pt a b t (List.range q.length)).dim, 20) from by
      have hfi : fieldT a b t = ((pt a b t (List.range q.length)).dim, 20) := by
        unfold fieldT
        rw [show takes b = tk b.length from rfl, hfw]
        rfl
      unfold keepT
      rw [hfi, if_neg (show ¬ (20 : Int) = 0 by decide)])
    generalize (pt a b t (List.range q.length)).dim = T at *
    clear hfw hg h0
    obtain ⟨F', hi, hF', hc'⟩ := hW.tray
    have hlow := HI.out.1.low
    obtain ⟨o1, o2, o3, o4, o5⟩ := HO.out
    have hws := o5.size
    have hsz := hW.turn.size
    have hDF : ¬ F' D := fun hk => by
      obtain ⟨o, h1, h2⟩ := hc' D hk
      rw [hK] at h1
      obtain rfl := Option.some.inj h1
      cases h2
    have ht3 := put_turns W D (.deferred none)
    have h3 := ht3.heap hW.res (show ¬ Rb = D by omega)
    have hwW : Turns F w W := (Turns.of_below o5).trans hW.turn fun k hk h1 => by
      rcases h1 with h1 | h1 | h1 | h1
      · exact h1
      all_goals omega
    have HEn := Lib.hid (show W.heap[D]? = _ ∧ _ ∧ Turns F w (W.putObj D (.deferred none)) ∧ ∃ F2, IsT (W.putObj D (.deferred none)) p n T F2 ∧ ∀ k, F2 k → F k ∨ w.heap.size ≤ k from
      ⟨hK, h3, hwW.trans ht3 fun k hk e => by omega, F', hi.turn ht3 fun k hk e => hDF (e ▸ hk), fun k hk => (hF' k hk).imp id fun h => by omega⟩)
    clear hi hF' hc' hDF ht3 h3 hwW hW hK hqr hpr hsz
    gi_wp2
    refine ⟨by simp, .inl ⟨_, _, rfl, run_takeDeferred HEn.out.1, ?_⟩⟩
    have z0 := Lib.cell_of_heap HEn.out.2.1 0
    simp at z0
    refine ⟨.bool false, by simp [results, Try.results67, go_sem, z0], ?_⟩
    rw [HRs.out]
    exact ⟨rfl, HEn.out.2.2⟩
end
end Ho
end Go.Proofs.Ytkfmmdiflbnhgaa
