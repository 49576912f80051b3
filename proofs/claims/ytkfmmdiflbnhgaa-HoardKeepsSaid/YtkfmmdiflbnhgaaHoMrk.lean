/-
  Layer 14: the program's mark: the one that counts.
-/
import Derived.Test.YtkfmmdiflbnhgaaHoCnt
namespace Go.Proofs.Ytkfmmdiflbnhgaa
set_option maxRecDepth 100000
open Go.RowKit
open Knot (Turns)
open Ta (IsBytes sec nul ptr IsT C5)
namespace Ho
/-- What counts of the first i sectors. -/
def acc (t : Ta.Tray (List UInt8)) : Nat → List Nat × Bool
  | 0 => ([0, 0, 0, 0, 0], false)
  | i + 1 => if IsMk (t.read nul (i : Nat)) i ∧ ((acc t i).2 = false ∨ (acc t i).1.getD 0 0 < (mkO (t.read nul (i : Nat))).getD 0 0) then (mkO (t.read nul (i : Nat)), true) else acc t i
theorem acc_len (t : Ta.Tray (List UInt8)) : ∀ i, (acc t i).1.length = 5
  | 0 => rfl
  | i + 1 => by
    rw [acc]
    split
    · exact mkO_len _
    · exact acc_len t i
theorem acc_yes {t : Ta.Tray (List UInt8)} {i : Nat} (h1 : IsMk (t.read nul (i : Nat)) i) (h2 : (acc t i).2 = false ∨ (acc t i).1.getD 0 0 < (mkO (t.read nul (i : Nat))).getD 0 0) : acc t (i + 1) = (mkO (t.read nul (i : Nat)), true) := by rw [acc, if_pos ⟨h1, h2⟩]
theorem acc_no {t : Ta.Tray (List UInt8)} {i : Nat} (h : ¬ (IsMk (t.read nul (i : Nat)) i ∧ ((acc t i).2 = false ∨ (acc t i).1.getD 0 0 < (mkO (t.read nul (i : Nat))).getD 0 0))) : acc t (i + 1) = acc t i := by rw [acc, if_neg h]
/-- What counts, as the program tells it. -/
def cntP (t : Ta.Tray (List UInt8)) : List Nat × Bool := if (cnt t).2 = true then cnt t else ([0, 0, 0, 0, 0], false)
theorem acc_two (t : Ta.Tray (List UInt8)) : acc t 2 = cntP t := by
  have e0 : ((0 : Nat) : Int) = 0 := rfl
  have e1 : ((1 : Nat) : Int) = 1 := rfl
  by_cases hA : IsMk (t.read nul 0) 0
  · have h1 : acc t 1 = (mkO (t.read nul 0), true) := acc_yes (i := 0) hA (.inl rfl)
    by_cases hB : IsMk (t.read nul 1) 1
    · have hne : (mkO (t.read nul 0)).getD 0 0 ≠ (mkO (t.read nul 1)).getD 0 0 := fun e => by have := hA.2; have := hB.2; omega
      by_cases hlt : (mkO (t.read nul 0)).getD 0 0 < (mkO (t.read nul 1)).getD 0 0
      · rw [acc_yes (i := 1) hB (.inr (by rw [h1]; exact hlt)), cntP]
        have : cnt t = (mkO (t.read nul 1), true) := by
          unfold cnt
          rw [if_neg (by rintro ⟨-, h | h⟩; exact h hB; omega), decide_eq_true hB]
        rw [this]
        rfl
      · rw [acc_no (i := 1) (by rintro ⟨-, h | h⟩; rw [h1] at h; cases h; rw [h1] at h; exact hlt h), h1, cntP]
        have : cnt t = (mkO (t.read nul 0), true) := by
          unfold cnt
          rw [if_pos ⟨hA, .inr (by omega)⟩]
        rw [this]
        rfl
    · rw [acc_no (i := 1) (fun h => hB h.1), h1, cntP]
      have : cnt t = (mkO (t.read nul 0), true) := by
        unfold cnt
        rw [if_pos ⟨hA, .inl hB⟩]
      rw [this]
      rfl
  · have h1 : acc t 1 = ([0, 0, 0, 0, 0], false) := acc_no (i := 0) (fun h => hA h.1)
    by_cases hB : IsMk (t.read nul 1) 1
    · rw [acc_yes (i := 1) hB (.inl (by rw [h1])), cntP]
      have : cnt t = (mkO (t.read nul 1), true) := by
        unfold cnt
        rw [if_neg (fun h => hA h.1), decide_eq_true hB]
      rw [this]
      rfl
    · rw [acc_no (i := 1) (fun h => hB h.1), h1, cntP]
      have : cnt t = (mkO (t.read nul 1), false) := by
        unfold cnt
        rw [if_neg (fun h => hA h.1), decide_eq_false hB]
      rw [this]
      rfl
section
variable {w : World} {p n s : Nat} {t : Ta.Tray (List UInt8)} {F : Nat → Prop}
/-- Under way: the disk's box, the result's, the one of what counts so far. -/
def Ac (p s : Nat) (w : World) (A R C : Nat) (ms : List Nat) (x : World) : Prop :=
  Below w.heap.size w x ∧ x.heap[A]? = some (.cells #[ptr p, .int .i64 (s : Int)] tDk (0, 0)) ∧ C5 R tPm (.int .i64 0) (.int .i64 0) (.int .i64 0) (.int .i64 0) (.int .i64 0) x ∧ MkP x C ms
theorem Ac.on {x y : World} {A R C : Nat} {ms : List Nat} (h : Ac p s w A R C ms x) (hb : Below x.heap.size x y) : Ac p s w A R C ms y :=
  ⟨h.1.trans (hb.mono h.1.size), (hb.block A (Array.getElem?_eq_some_iff.1 h.2.1).1).trans h.2.1, h.2.2.1.on hb, h.2.2.2.on hb⟩
set_option maxHeartbeats 8000000 in
set_option maxRecDepth 100000 in
theorem dmark_any (h : IsT w p n t F) : Calls Try.prog 64 #[dkV p s] w fun e x => e = .returned (.tuple #[.agg (mcs (cntP t).1), .bool (cntP t).2]) ∧ Below w.heap.size w x := by
  have hn := h.num
  obtain ⟨W, hW⟩ : ∃ W, W = ((w.alloc (.cells #[ptr p, .int .i64 (s : Int)] tDk)).alloc (.cells (mcs [0, 0, 0, 0, 0]) tPm)).alloc (.cells (mcs [0, 0, 0, 0, 0]) tPm) := ⟨_, rfl⟩
  have hWs : Ac p s w w.heap.size (w.heap.size + 1) (w.heap.size + 1 + 1) (acc t 0).1 W := by
    rw [hW]
    generalize hA : w.alloc (.cells #[ptr p, .int .i64 (s : Int)] tDk) = X1
    have a1 : Below w.heap.size w X1 := by rw [← hA]; exact (Below.refl _ _).alloc (Nat.le_refl _) _
    have c1 : X1.heap[w.heap.size]? = some (.cells #[ptr p, .int .i64 (s : Int)] tDk (0, 0)) := by rw [← hA]; exact heap_alloc_new w _
    have s1 : X1.heap.size = w.heap.size + 1 := by rw [← hA]; simp
    generalize hB : X1.alloc (.cells (mcs [0, 0, 0, 0, 0]) tPm) = X2
    have a2 : Below X1.heap.size X1 X2 := by rw [← hB]; exact (Below.refl _ _).alloc (Nat.le_refl _) _
    have c2 : MkP X2 (w.heap.size + 1) [0, 0, 0, 0, 0] := by rw [← hB, ← s1]; exact heap_alloc_new X1 _
    have s2 : X2.heap.size = w.heap.size + 1 + 1 := by rw [← hB]; simp [s1]
    have a3 : Below X2.heap.size X2 (X2.alloc (.cells (mcs [0, 0, 0, 0, 0]) tPm)) := (Below.refl _ _).alloc (Nat.le_refl _) _
    have c3 : MkP (X2.alloc (.cells (mcs [0, 0, 0, 0, 0]) tPm)) (w.heap.size + 1 + 1) [0, 0, 0, 0, 0] := by rw [← s2]; exact heap_alloc_new X2 _
    exact ⟨(a1.trans (a2.mono a1.size)).trans (a3.mono (by omega)), (a3.block _ (by omega)).trans ((a2.block _ (by omega)).trans c1), c2.on a3, c3⟩
  have HM := Lib.hid (show ∀ (i : Nat) x, i < 2 → Below w.heap.size w x → _ from fun i x hi hx => markOn_any (s := s) (h.below hx) i (by omega))
  clear h hn
  unfold dkV at HM ⊢
  go_enter Try.func64, Try.ntmps64
  go_upto_region 2 with fail
  change Code.wp _ _ _ _ (((w.alloc (.cells #[ptr p, .int .i64 (s : Int)] tDk)).alloc (.cells (mcs [0, 0, 0, 0, 0]) tPm)).alloc (.cells (mcs [0, 0, 0, 0, 0]) tPm))
  rw [← hW]
  clear hW
  obtain ⟨R, hR⟩ : ∃ R, R = w.heap.size + 1 := ⟨_, rfl⟩
  rw [← hR] at hWs ⊢
  obtain ⟨C, hC⟩ : ∃ C, C = R + 1 := ⟨_, rfl⟩
  rw [← hC] at hWs ⊢
  obtain ⟨A, hA⟩ : ∃ A, A = w.heap.size := ⟨_, rfl⟩
  rw [← hA] at hWs ⊢
  have HO := Lib.hid (show A < R ∧ R < C ∧ w.heap.size ≤ A from by omega)
  clear hR hC hA
  have HW := Lib.hid hWs
  clear hWs
  have HEn := Lib.hid (acc_two t)
  go_wp2_with fail
  go_loopw [5, 9] (fun vf vi x => ∃ i : Nat, i ≤ 2 ∧ vi = .int .i64 (i : Int) ∧ vf = .bool (acc t i).2 ∧ Hid (Ac p s w A R C (acc t i).1 x)) (fun _ vi _ => 2 - (intOf vi).toNat)
  case atStart => exact ⟨0, by omega, rfl, rfl, HW.out⟩
  case round =>
    clear HW W
    obtain ⟨i, hi, rfl, rfl, HX⟩ := hrel
    by_cases hlt : i < 2
    · have HMi := Lib.hid (HM.out i wr hlt HX.out.1)
      have c0 := Lib.cell_of_heap HX.out.2.1 0
      have c1 := Lib.cell_of_heap HX.out.2.1 1
      simp only [List.getElem?_toArray, List.getElem?_cons_zero, List.getElem?_cons_succ] at c0 c1
      have hY := @acc_yes t i
      have hNo := @acc_no t i
      obtain ⟨ok, hok⟩ : ∃ ok : Bool, ok = decide (IsMk (t.read nul (i : Nat)) i) := ⟨_, rfl⟩
      rw [← hok] at HMi
      have hok' : IsMk (t.read nul (i : Nat)) i ↔ ok = true := by rw [hok, decide_eq_true_iff]
      clear hok
      rw [hok'] at hY hNo
      clear hok'
      obtain ⟨m0, m1, m2, m3, m4, hmo⟩ := five (mkO_len (t.read nul (i : Nat)))
      rw [hmo] at hY hNo
      rw [hmo, mcs5] at HMi
      clear hmo
      have hal := acc_len t i
      generalize hac : acc t (i + 1) = ac' at *
      have HAc := Lib.hid hac
      clear hac
      generalize acc t i = ac at *
      obtain ⟨al, fd⟩ := ac
      obtain ⟨a0, a1, a2, a3, a4, hal5⟩ := five hal
      simp only at hal5 HX hY hNo ⊢
      subst hal5
      simp only [List.getD_cons_zero] at hY hNo
      clear hal
      have HYN := Lib.hid (And.intro hY hNo)
      clear hY hNo
      go_wp2_with fail
      refine HMi.out.mono ?_
      rintro e x3 ⟨rfl, hb3⟩
      clear c0 c1 HMi
      go_upto_region 7 with fail
      obtain ⟨V, hV⟩ : ∃ V, V = x3.alloc (.cells #[.int .i64 (m0 : Int), .int .i64 (m1 : Int), .int .i64 (m2 : Int), .int .i64 (m3 : Int), .int .i64 (m4 : Int)] tPm) := ⟨_, rfl⟩
      rw [← hV]
      have HV := Lib.hid (show Ac p s w A R C [a0, a1, a2, a3, a4] V ∧ C5 x3.heap.size tPm (.int .i64 (m0 : Int)) (.int .i64 (m1 : Int)) (.int .i64 (m2 : Int)) (.int .i64 (m3 : Int)) (.int .i64 (m4 : Int)) V from ⟨by rw [hV]; exact (HX.out.on hb3).on ((Below.refl _ _).alloc (Nat.le_refl _) _), by rw [hV]; exact heap_alloc_new x3 _⟩)
      clear hV hb3 HX
      generalize x3.heap.size = Q at *
      cases ok with
      | false =>
        have HN := Lib.hid (show Ac p s w A R C ac'.1 V ∧ ac' = ([a0, a1, a2, a3, a4], fd) from by
          have e := HYN.out.2 (fun h => by cases h.1)
          rw [e]
          exact ⟨HV.out.1, rfl⟩)
        clear HV HYN
        go_wp2_with fail
        go_roundw
        case rel => exact ⟨i + 1, by omega, by go_num, by rw [HAc.out, HN.out.2], by rw [HAc.out]; exact HN.out.1⟩
        case measure => simp [intOf]; omega
      | true =>
        cases fd with
        | false =>
          obtain ⟨c0, c1, c2, c3, c4⟩ := HV.out.2.cells
          have hbx : C5 C tPm (.int .i64 (a0 : Int)) (.int .i64 (a1 : Int)) (.int .i64 (a2 : Int)) (.int .i64 (a3 : Int)) (.int .i64 (a4 : Int)) V := HV.out.1.2.2.2
          obtain ⟨z0, z1, z2, z3, z4⟩ := hbx.cells
          obtain ⟨f0, f1, f2, f3, f4⟩ := hbx.free
          have HN := Lib.hid (show Ac p s w A R C ac'.1 (Ta.st5 V C (.int .i64 (m0 : Int)) (.int .i64 (m1 : Int)) (.int .i64 (m2 : Int)) (.int .i64 (m3 : Int)) (.int .i64 (m4 : Int))) ∧ ac' = ([m0, m1, m2, m3, m4], true) from by
            have e := HYN.out.1 rfl (.inl rfl)
            have ht5 := Ta.st5_turns V C (.int .i64 (m0 : Int)) (.int .i64 (m1 : Int)) (.int .i64 (m2 : Int)) (.int .i64 (m3 : Int)) (.int .i64 (m4 : Int))
            rw [e]
            exact ⟨⟨HV.out.1.1.trans (ht5.below HV.out.1.1.size fun k e => by have := HO.out; omega), ht5.heap HV.out.1.2.1 (by have := HO.out; omega), HV.out.1.2.2.1.turn ht5 (by have := HO.out; omega), hbx.put (.int .i64 (m0 : Int)) (.int .i64 (m1 : Int)) (.int .i64 (m2 : Int)) (.int .i64 (m3 : Int)) (.int .i64 (m4 : Int))⟩, rfl⟩)
          obtain ⟨Fin, hFin⟩ : ∃ F, F = Ta.st5 V C (.int .i64 (m0 : Int)) (.int .i64 (m1 : Int)) (.int .i64 (m2 : Int)) (.int .i64 (m3 : Int)) (.int .i64 (m4 : Int)) := ⟨_, rfl⟩
          rw [← hFin] at HN
          unfold Ta.st5 at hFin
          clear HV HYN hbx
          go_wp2_with fail
          rw [← hFin]
          clear c0 c1 c2 c3 c4 z0 z1 z2 z3 z4 f0 f1 f2 f3 f4 hFin
          go_roundw
          case rel => exact ⟨i + 1, by omega, by go_num, by rw [HAc.out, HN.out.2], by rw [HAc.out]; exact HN.out.1⟩
          case measure => simp [intOf]; omega
        | true =>
          by_cases hgt : a0 < m0
          · have e1 : (a0 : Int) < (m0 : Int) := by omega
            obtain ⟨d0, -⟩ := HV.out.2.cells
            obtain ⟨d1, -⟩ := Ta.C5.cells (T := tPm) (show C5 C tPm (.int .i64 (a0 : Int)) (.int .i64 (a1 : Int)) (.int .i64 (a2 : Int)) (.int .i64 (a3 : Int)) (.int .i64 (a4 : Int)) V from HV.out.1.2.2.2)
            go_upto_region 8 with fail
            clear d0 d1
            obtain ⟨c0, c1, c2, c3, c4⟩ := HV.out.2.cells
            have hbx : C5 C tPm (.int .i64 (a0 : Int)) (.int .i64 (a1 : Int)) (.int .i64 (a2 : Int)) (.int .i64 (a3 : Int)) (.int .i64 (a4 : Int)) V := HV.out.1.2.2.2
            obtain ⟨z0, z1, z2, z3, z4⟩ := hbx.cells
            obtain ⟨f0, f1, f2, f3, f4⟩ := hbx.free
            have HN := Lib.hid (show Ac p s w A R C ac'.1 (Ta.st5 V C (.int .i64 (m0 : Int)) (.int .i64 (m1 : Int)) (.int .i64 (m2 : Int)) (.int .i64 (m3 : Int)) (.int .i64 (m4 : Int))) ∧ ac' = ([m0, m1, m2, m3, m4], true) from by
              have e := HYN.out.1 rfl (.inr hgt)
              have ht5 := Ta.st5_turns V C (.int .i64 (m0 : Int)) (.int .i64 (m1 : Int)) (.int .i64 (m2 : Int)) (.int .i64 (m3 : Int)) (.int .i64 (m4 : Int))
              rw [e]
              exact ⟨⟨HV.out.1.1.trans (ht5.below HV.out.1.1.size fun k e => by have := HO.out; omega), ht5.heap HV.out.1.2.1 (by have := HO.out; omega), HV.out.1.2.2.1.turn ht5 (by have := HO.out; omega), hbx.put (.int .i64 (m0 : Int)) (.int .i64 (m1 : Int)) (.int .i64 (m2 : Int)) (.int .i64 (m3 : Int)) (.int .i64 (m4 : Int))⟩, rfl⟩)
            obtain ⟨Fin, hFin⟩ : ∃ F, F = Ta.st5 V C (.int .i64 (m0 : Int)) (.int .i64 (m1 : Int)) (.int .i64 (m2 : Int)) (.int .i64 (m3 : Int)) (.int .i64 (m4 : Int)) := ⟨_, rfl⟩
            rw [← hFin] at HN
            unfold Ta.st5 at hFin
            clear HV HYN hbx
            go_wp2_with fail
            rw [← hFin]
            clear c0 c1 c2 c3 c4 z0 z1 z2 z3 z4 f0 f1 f2 f3 f4 hFin
            go_roundw
            case rel => exact ⟨i + 1, by omega, by go_num, by rw [HAc.out, HN.out.2], by rw [HAc.out]; exact HN.out.1⟩
            case measure => simp [intOf]; omega
          · have e1 : ¬ (a0 : Int) < (m0 : Int) := by omega
            obtain ⟨d0, -⟩ := HV.out.2.cells
            obtain ⟨d1, -⟩ := Ta.C5.cells (T := tPm) (show C5 C tPm (.int .i64 (a0 : Int)) (.int .i64 (a1 : Int)) (.int .i64 (a2 : Int)) (.int .i64 (a3 : Int)) (.int .i64 (a4 : Int)) V from HV.out.1.2.2.2)
            have HN := Lib.hid (show Ac p s w A R C ac'.1 V ∧ ac' = ([a0, a1, a2, a3, a4], true) from by
              have e := HYN.out.2 (fun h => by rcases h.2 with h | h; cases h; exact hgt h)
              rw [e]
              exact ⟨HV.out.1, rfl⟩)
            clear HV HYN
            go_wp2_with fail
            go_roundw
            case rel => exact ⟨i + 1, by omega, by go_num, by rw [HAc.out, HN.out.2], by rw [HAc.out]; exact HN.out.1⟩
            case measure => simp [intOf]; omega
    · obtain rfl : i = 2 := by omega
      rw [HEn.out] at HX ⊢
      have hl5 := acc_len t 2
      rw [HEn.out] at hl5
      generalize hcp : cntP t = cp at *
      have HCp := Lib.hid hcp
      clear hcp
      obtain ⟨al, fd⟩ := cp
      obtain ⟨a0, a1, a2, a3, a4, hal5⟩ := five hl5
      simp only at hal5 HX ⊢
      subst hal5
      clear hl5
      have hbx : C5 C tPm (.int .i64 (a0 : Int)) (.int .i64 (a1 : Int)) (.int .i64 (a2 : Int)) (.int .i64 (a3 : Int)) (.int .i64 (a4 : Int)) wr := HX.out.2.2.2
      obtain ⟨c0, c1, c2, c3, c4⟩ := hbx.cells
      obtain ⟨z0, z1, z2, z3, z4⟩ := HX.out.2.2.1.cells
      obtain ⟨f0, f1, f2, f3, f4⟩ := HX.out.2.2.1.free
      have ht5 := Ta.st5_turns wr R (.int .i64 (a0 : Int)) (.int .i64 (a1 : Int)) (.int .i64 (a2 : Int)) (.int .i64 (a3 : Int)) (.int .i64 (a4 : Int))
      have HN := Lib.hid (show C5 R tPm (.int .i64 (a0 : Int)) (.int .i64 (a1 : Int)) (.int .i64 (a2 : Int)) (.int .i64 (a3 : Int)) (.int .i64 (a4 : Int)) (Ta.st5 wr R (.int .i64 (a0 : Int)) (.int .i64 (a1 : Int)) (.int .i64 (a2 : Int)) (.int .i64 (a3 : Int)) (.int .i64 (a4 : Int))) ∧ Below w.heap.size w (Ta.st5 wr R (.int .i64 (a0 : Int)) (.int .i64 (a1 : Int)) (.int .i64 (a2 : Int)) (.int .i64 (a3 : Int)) (.int .i64 (a4 : Int))) from ⟨HX.out.2.2.1.put (.int .i64 (a0 : Int)) (.int .i64 (a1 : Int)) (.int .i64 (a2 : Int)) (.int .i64 (a3 : Int)) (.int .i64 (a4 : Int)), HX.out.1.trans (ht5.below HX.out.1.size fun k e => by have := HO.out; omega)⟩)
      clear ht5 hbx HX
      obtain ⟨Fin, hFin⟩ : ∃ F, F = Ta.st5 wr R (.int .i64 (a0 : Int)) (.int .i64 (a1 : Int)) (.int .i64 (a2 : Int)) (.int .i64 (a3 : Int)) (.int .i64 (a4 : Int)) := ⟨_, rfl⟩
      rw [← hFin] at HN
      unfold Ta.st5 at hFin
      go_wp2_with fail
      rw [← hFin]
      clear c0 c1 c2 c3 c4 z0 z1 z2 z3 z4 f0 f1 f2 f3 f4 hFin
      obtain ⟨g0, g1, g2, g3, g4⟩ := HN.out.1.cells
      exact bodyPost_ret (v := .tuple #[.agg #[.int .i64 (a0 : Int), .int .i64 (a1 : Int), .int .i64 (a2 : Int), .int .i64 (a3 : Int), .int .i64 (a4 : Int)], .bool fd]) (by simp [results, Try.results64, go_sem, g0, g1, g2, g3, g4]) rfl ⟨by rw [HCp.out]; rfl, HN.out.2⟩
end
end Ho
end Go.Proofs.Ytkfmmdiflbnhgaa
