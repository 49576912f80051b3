/-
  Layer 10 (cask): takeList, at nodes, allowances, relations, types. Written by gen/mk_ck.py.
-/
import Derived.Test.YtopncohhagebbaaDoorCkRows
namespace Go.Proofs.YtopncohhagebbaaDoor
open Go.RowKit Go.Sort
namespace Ck
open Knot (Turns NewRow Inn At iptr)
open Tr (Nd none0 node4 own_slice walk_rows)
open Who (bs bs_list bs_size bs_self eq_of_list)
open Gr (Al Rl Ty Elt RowS allowE alV relV tyV elN elA elR elT cellsV cellsV_one new_cells)

/-- What a taking of a list of nodes answers. -/
def OutsN (I : Nat) (r : List Nd × St) (x : World) (e : Ending) (y : World) : Prop :=
  ∃ v, e = .returned v ∧ RowU y x.heap.size y.heap.size 52 v r.1 ∧ Inn y I (bs r.2.1) r.2.2 ∧ Turns (At I) x y
/-- What its loop keeps. -/
structure LoN (I N : Nat) (p : St → Nd × St) (R : List Nd × St) (w : World) (v : Value) (k : Nat) (l : List Nd) (s : St) (x : World) : Prop where
  row : RowU x w.heap.size x.heap.size 52 v l
  inn : Inn x I (bs s.1) s.2
  turns : Turns (At I) w x
  more : loopP p k s l = R
  len : l.length + s.1.length ≤ N

set_option maxHeartbeats 8000000 in
set_option maxRecDepth 100000 in
theorem takeN_any {I N : Nat} {W : World} {f : FuncId} {cap0 : Array Value} {p : St → Nd × St} (most : Int) {s : St} (HE : ∀ args x, (callFunc f args).run Tryd.prog x = .ok (.enter f args) x) (hp : (numP most s).1 ≠ 0 → Part nodeU I N W f cap0 p) {x : World} (h : Inn x I (bs s.1) s.2) (hl : s.1.length ≤ N) (hN : N ≤ 90000000) (hW : Turns (At I) W x) :
    Calls Tryd.prog 57 #[iptr I, .int .i64 most, fnv f cap0] x (OutsN I (listP most p s) x) := by
  have HP := Lib.hid hp
  have HX := Lib.hid (And.intro hW (And.intro hl hN))
  have HC := Lib.hid (number_p I s most x h (by omega))
  have hbig := numP_big most s
  have hle := numP_le most s
  have hIl := h.lt
  clear hp hW h
  rw [show listP most p s = loopP p (numP most s).1 (numP most s).2 [] from rfl]
  generalize numP most s = q at *
  obtain ⟨n, s1⟩ := q
  simp only at hbig hle HC ⊢
  have HLe := Lib.hid (Nat.le_trans hle hl)
  have HI := Lib.hid hIl
  have hn17 : n ≤ 100000000000000000 := Nat.le_of_lt hbig
  clear hl hle hN hIl hbig
  go_enter Tryd.func57, Tryd.ntmps57
  go_wp2_with fail
  refine HC.out.mono ?_
  rintro e w1 ⟨rfl, h1, h2⟩
  have H0 : LoN I N p (loopP p n s1 []) x (.slice none 0 0) n [] s1 w1 := ⟨RowU.nil _ _ _ _, h1, h2, rfl, by simpa using HLe.out⟩
  have HS0 := Lib.hid H0
  clear h1 h2 HC HLe H0
  generalize loopP p n s1 [] = R at *
  go_wp2_with fail
  go_loopw [7, 13] (fun lv iv wr => ∃ (l : List Nd) (si : St) (k i : Nat), iv = .int .i64 i ∧ i + k = n ∧ Hid (LoN I N p R x lv k l si wr)) (fun _ iv _ => n - (intOf iv).toNat)
  case atStart => exact ⟨[], s1, n, 0, rfl, by omega, HS0⟩
  case round =>
    clear HS0
    obtain ⟨l, si, k, i, rfl, hik, HA⟩ := hrel
    obtain ⟨lo, lc, rfl⟩ := HA.out.row.slice
    by_cases hn : i < n
    · obtain ⟨k', rfl⟩ : ∃ k', k = k' + 1 := ⟨k - 1, by omega⟩
      have HL := Lib.hid (Knot.left_any I (bs si.1) si.2 wr HA.out.inn)
      have hsz : ((bs si.1).size : Int) = (si.1.length : Int) := by rw [bs_size]
      have HR := Lib.hid ((HP.out (by omega)).run si wr HA.out.inn (by have := HA.out.len; omega) (at_trans HX.out.1 HA.out.turns))
      cases hsi : si.1 with
      | nil =>
        rw [bs_size, hsi] at HL
        have HO := Lib.hid (show R = ([], (p si).2) by rw [← HA.out.more, loopP_off hsi])
        have HT := Lib.hid HA.out.turns
        clear hsi hsz HA
        go_wp2_with (go_at_call 24; refine HL.out.mono ?_; rintro e y ⟨rfl, rfl⟩)
        refine HR.out.mono ?_
        rintro e z ⟨v, rfl, hv, h3, h4⟩
        have HV := Lib.hid hv
        have HZ := Lib.hid (And.intro h3 (at_trans HT.out h4))
        clear hv h3 h4 HR
        obtain ⟨ao, cap, rfl⟩ := NodeU.open HV.out
        go_wp2_with fail
        go_ret
        rw [HO.out]
        refine ⟨_, rfl, RowU.nil _ _ _ _, HZ.out.1.below ((Below.refl _ _).alloc (Nat.le_refl _) _), HZ.out.2.then_below ((Below.refl _ _).alloc (Nat.le_refl _) _)⟩
      | cons b0 t0 =>
        have hne : si.1 ≠ [] := by rw [hsi]; simp
        have hlp := List.length_pos_iff.2 hne
        have hz0 : ((si.1.length : Int) == 0) = false := by simp; exact hne
        have hz1 : (((si.1.length : Nat) : Int) == (0 : Int)) = false := hz0
        rw [bs_size] at HL
        have HO := Lib.hid (show loopP p k' (p si).2 (l ++ [(p si).1]) = R by rw [← HA.out.more, loopP_on hne])
        have hsh := ((HP.out (by omega)).short si).resolve_right fun h => hne h.1
        have hlen := HA.out.len
        have HS := Lib.hid (show (l ++ [(p si).1]).length + (p si).2.1.length ≤ N by rw [List.length_append, List.length_singleton]; omega)
        have hll : l.length ≤ 90000000 := by have := HX.out.2.2; omega
        have HT := Lib.hid (And.intro HA.out.turns HA.out.row)
        clear hsi hsz HA hsh hlen hlp hne
        generalize si.1.length = sl at *
        go_wp2_with (go_at_call 24; refine HL.out.mono ?_; rintro e y ⟨rfl, rfl⟩)
        refine HR.out.mono ?_
        rintro e z ⟨v, rfl, hv, h3, h4⟩
        have HV := Lib.hid hv
        have hrow : RowU z x.heap.size y.heap.size 52 (Value.slice lo l.length lc) l := HT.out.2.now.turn h4 fun g hg _ e => by
          have := HI.out
          have e' : g = I := e
          omega
        have hlt : ∀ g, (Value.slice lo l.length lc).ownBlock = some g → g < y.heap.size := fun g hg => (HT.out.2.own_lt hg).2
        obtain ⟨ao, cap, rfl⟩ := NodeU.open HV.out
        have al0 : Below z.heap.size z (z.alloc (.cells #[.int .i64 (p si).1.kind, .string (p si).1.ta, .string (p si).1.tb, .slice ao (p si).1.kids.length cap] 52)) := (Below.refl _ _).alloc (Nat.le_refl _) _
        have hbx := heap_alloc_new z (.cells #[.int .i64 (p si).1.kind, .string (p si).1.ta, .string (p si).1.tb, .slice ao (p si).1.kids.length cap] 52)
        have HV2 := Lib.hid (Elt.below (E := nodeU) HV.out al0)
        have hrow2 := hrow.below al0
        have H3 := Lib.hid (h3.below al0)
        have H4 := Lib.hid ((at_trans HT.out.1 h4).then_below al0)
        have HL2 := Lib.hid (And.intro hlt (And.intro HT.out.1.size (Nat.le_trans h4.size al0.size)))
        have HRow := Lib.hid hrow2
        have hR : z.heap.size < (z.alloc (.cells #[.int .i64 (p si).1.kind, .string (p si).1.ta, .string (p si).1.tb, .slice ao (p si).1.kids.length cap] 52)).heap.size := by simp
        clear hv h3 h4 hrow hrow2 hlt HT HV HL HE al0 HR
        go_upto_region 8 with fail
        generalize z.alloc (.cells #[.int .i64 (p si).1.kind, .string (p si).1.ta, .string (p si).1.tb, .slice ao (p si).1.kids.length cap] 52) = Z at *
        generalize z.heap.size = Rb at *
        obtain ⟨c0, c1, c2, c3⟩ := Ck.box4 hbx
        have al : Below Z.heap.size Z (Z.alloc (.cells ([.int .i64 (p si).1.kind, .string (p si).1.ta, .string (p si).1.tb, .slice ao (p si).1.kids.length cap]).toArray 52)) := (Below.refl _ _).alloc (Nat.le_refl _) _
        have HV3 := Lib.hid (Elt.below (E := nodeU) HV2.out al)
        obtain ⟨vs, G, o1, o2, o3, o4⟩ := HRow.out.below al
        have H5 := Lib.hid (H3.out.below al)
        have H6 := Lib.hid (H4.out.then_below al)
        obtain ⟨ti, tz, tb, TE, hT⟩ := elN
        have HO2 := Lib.hid (And.intro o1 (And.intro (And.intro o2 o4) (And.intro o3 (And.intro TE hT))))
        have HL3 := Lib.hid (And.intro HL2.out.1 (And.intro HL2.out.2.1 (And.intro HL2.out.2.2 al.size)))
        clear o1 o2 o3 o4 TE hT HL2 H3 H4 HV2 HRow al hbx
        go_wp2_with (at_builtin; refine walk_rows HO2.out.2.2.2.1 rfl _ _ rfl rfl rfl HO2.out.1 (by have := HL3.out.2; omega) (m := 1) rfl (new_cells _ _ ([.int .i64 (p si).1.kind, .string (p si).1.ta, .string (p si).1.tb, .slice ao (p si).1.kids.length cap]) (by simp)) (by intro u' hu'; simp at hu'; rcases hu' with rfl | rfl | rfl | rfl <;> rfl) (by omega) (Nat.le_trans (Nat.mul_le_mul_left _ HO2.out.2.2.2.2) (by omega)) ?_)
        intro v2 zz r2 g2 n2
        have hrow : RowU zz x.heap.size zz.heap.size 52 v2 (l ++ [(p si).1]) :=
          RowU.grow (C := y.heap.size) (u := node4 (p si).1.kind (p si).1.ta (p si).1.tb (.slice ao (p si).1.kids.length cap)) HO2.out.2.1.1 HO2.out.2.2.1 HO2.out.2.1.2 HV3.out HL3.out.2.1 (fun k hk => HL3.out.1 k hk) (by rw [cellsV_one]; exact r2) g2 n2
        have tg : Turns (fun k => (Value.slice lo l.length lc).ownBlock = some k) _ zz := Turns.of_grown g2 fun k hk => hk
        have hown : ∀ k, (Value.slice lo l.length lc).ownBlock = some k → x.heap.size ≤ k := fun k hk => (HO2.out.1.lt k hk).1
        have hIx := HI.out
        have hLo : LoN I N p R x v2 k' (l ++ [(p si).1]) (p si).2 zz :=
          ⟨hrow, H5.out.keep tg fun e => by have := hown I e; omega, H6.out.trans (G := fun k => (Value.slice lo l.length lc).ownBlock = some k) tg fun g hg e => by have := hown g e; omega, HO.out, HS.out⟩
        have HLo := Lib.hid hLo
        clear hrow tg hown hLo r2 g2 n2 HO2 HL3 HV3 H5 H6 HO HS hIx
        go_wp2_with fail
        go_roundw
        case rel => exact ⟨_, _, k', i + 1, by go_num, by omega, HLo⟩
        case measure => simp [intOf]; omega
    · obtain rfl : k = 0 := by omega
      have HO := Lib.hid (show R = (l, si) from HA.out.more.symm)
      have HT := Lib.hid (And.intro HA.out.row (And.intro HA.out.inn HA.out.turns))
      clear HA
      go_wp2_with fail
      go_ret
      rw [HO.out]
      exact ⟨_, rfl, HT.out.1, HT.out.2.1, HT.out.2.2⟩

set_option maxHeartbeats 8000000 in
set_option maxRecDepth 100000 in
theorem takeA_any {I N : Nat} {W : World} {f : FuncId} {cap0 : Array Value} {p : St → Al × St} (most : Int) {s : St} (HE : ∀ args x, (callFunc f args).run Tryd.prog x = .ok (.enter f args) x) (hp : (numP most s).1 ≠ 0 → Part allowE I N W f cap0 p) {x : World} (h : Inn x I (bs s.1) s.2) (hl : s.1.length ≤ N) (hN : N ≤ 90000000) (hW : Turns (At I) W x) :
    Calls Tryd.prog 41 #[iptr I, .int .i64 most, fnv f cap0] x (Outs allowE 59 I (listP most p s) x) := by
  have HP := Lib.hid hp
  have HX := Lib.hid (And.intro hW (And.intro hl hN))
  have HC := Lib.hid (number_p I s most x h (by omega))
  have hbig := numP_big most s
  have hle := numP_le most s
  have hIl := h.lt
  clear hp hW h
  rw [show listP most p s = loopP p (numP most s).1 (numP most s).2 [] from rfl]
  generalize numP most s = q at *
  obtain ⟨n, s1⟩ := q
  simp only at hbig hle HC ⊢
  have HLe := Lib.hid (Nat.le_trans hle hl)
  have HI := Lib.hid hIl
  have hn17 : n ≤ 100000000000000000 := Nat.le_of_lt hbig
  clear hl hle hN hIl hbig
  go_enter Tryd.func41, Tryd.ntmps41
  go_wp2_with fail
  refine HC.out.mono ?_
  rintro e w1 ⟨rfl, h1, h2⟩
  have H0 : Lo allowE 59 I N p (loopP p n s1 []) x (.slice none 0 0) n [] s1 w1 := ⟨RowS.nil _ _ _ _, h1, h2, rfl, by simpa using HLe.out⟩
  have HS0 := Lib.hid H0
  clear h1 h2 HC HLe H0
  generalize loopP p n s1 [] = R at *
  go_wp2_with fail
  go_loopw [7, 13] (fun lv iv wr => ∃ (l : List Al) (si : St) (k i : Nat), iv = .int .i64 i ∧ i + k = n ∧ Hid (Lo allowE 59 I N p R x lv k l si wr)) (fun _ iv _ => n - (intOf iv).toNat)
  case atStart => exact ⟨[], s1, n, 0, rfl, by omega, HS0⟩
  case round =>
    clear HS0
    obtain ⟨l, si, k, i, rfl, hik, HA⟩ := hrel
    obtain ⟨lo, lc, rfl⟩ := HA.out.row.slice
    by_cases hn : i < n
    · obtain ⟨k', rfl⟩ : ∃ k', k = k' + 1 := ⟨k - 1, by omega⟩
      have HL := Lib.hid (Knot.left_any I (bs si.1) si.2 wr HA.out.inn)
      have hsz : ((bs si.1).size : Int) = (si.1.length : Int) := by rw [bs_size]
      have HR := Lib.hid ((HP.out (by omega)).run si wr HA.out.inn (by have := HA.out.len; omega) (at_trans HX.out.1 HA.out.turns))
      cases hsi : si.1 with
      | nil =>
        rw [bs_size, hsi] at HL
        have HO := Lib.hid (show R = ([], (p si).2) by rw [← HA.out.more, loopP_off hsi])
        have HT := Lib.hid HA.out.turns
        clear hsi hsz HA
        go_wp2_with (go_at_call 24; refine HL.out.mono ?_; rintro e y ⟨rfl, rfl⟩)
        refine HR.out.mono ?_
        rintro e z ⟨v, rfl, hv, h3, h4⟩
        have HV := Lib.hid hv
        have HZ := Lib.hid (And.intro h3 (at_trans HT.out h4))
        clear hv h3 h4 HR
        obtain rfl : v = alV _ := HV.out
        go_wp2_with fail
        go_ret
        rw [HO.out]
        refine ⟨_, rfl, RowS.nil _ _ _ _, HZ.out.1.below ((Below.refl _ _).alloc (Nat.le_refl _) _), HZ.out.2.then_below ((Below.refl _ _).alloc (Nat.le_refl _) _)⟩
      | cons b0 t0 =>
        have hne : si.1 ≠ [] := by rw [hsi]; simp
        have hlp := List.length_pos_iff.2 hne
        have hz0 : ((si.1.length : Int) == 0) = false := by simp; exact hne
        have hz1 : (((si.1.length : Nat) : Int) == (0 : Int)) = false := hz0
        rw [bs_size] at HL
        have HO := Lib.hid (show loopP p k' (p si).2 (l ++ [(p si).1]) = R by rw [← HA.out.more, loopP_on hne])
        have hsh := ((HP.out (by omega)).short si).resolve_right fun h => hne h.1
        have hlen := HA.out.len
        have HS := Lib.hid (show (l ++ [(p si).1]).length + (p si).2.1.length ≤ N by rw [List.length_append, List.length_singleton]; omega)
        have hll : l.length ≤ 90000000 := by have := HX.out.2.2; omega
        have HT := Lib.hid (And.intro HA.out.turns HA.out.row)
        clear hsi hsz HA hsh hlen hlp hne
        generalize si.1.length = sl at *
        go_wp2_with (go_at_call 24; refine HL.out.mono ?_; rintro e y ⟨rfl, rfl⟩)
        refine HR.out.mono ?_
        rintro e z ⟨v, rfl, hv, h3, h4⟩
        have HV := Lib.hid hv
        have hrow : RowS allowE z x.heap.size 59 (Value.slice lo l.length lc) l := HT.out.2.turn h4 fun g hg _ e => by
          have := HI.out
          have e' : g = I := e
          omega
        have hlt : ∀ g, (Value.slice lo l.length lc).ownBlock = some g → g < y.heap.size := fun g hg => (HT.out.2.own_lt hg).2
        obtain rfl : v = alV _ := HV.out
        have al0 : Below z.heap.size z (z.alloc (.cells #[.string (p si).1.ty, .string (p si).1.rel, .bool (p si).1.wild] 59)) := (Below.refl _ _).alloc (Nat.le_refl _) _
        have hbx := heap_alloc_new z (.cells #[.string (p si).1.ty, .string (p si).1.rel, .bool (p si).1.wild] 59)
        have HV2 := Lib.hid (Elt.below (E := allowE) HV.out al0)
        have hrow2 := hrow.below al0
        have H3 := Lib.hid (h3.below al0)
        have H4 := Lib.hid ((at_trans HT.out.1 h4).then_below al0)
        have HL2 := Lib.hid (And.intro hlt (And.intro HT.out.1.size (Nat.le_trans h4.size al0.size)))
        have HRow := Lib.hid hrow2
        have hR : z.heap.size < (z.alloc (.cells #[.string (p si).1.ty, .string (p si).1.rel, .bool (p si).1.wild] 59)).heap.size := by simp
        clear hv h3 h4 hrow hrow2 hlt HT HV HL HE al0 HR
        go_upto_region 8 with fail
        generalize z.alloc (.cells #[.string (p si).1.ty, .string (p si).1.rel, .bool (p si).1.wild] 59) = Z at *
        generalize z.heap.size = Rb at *
        obtain ⟨c0, c1, c2⟩ := Ck.box3 hbx
        have al : Below Z.heap.size Z (Z.alloc (.cells ([.string (p si).1.ty, .string (p si).1.rel, .bool (p si).1.wild]).toArray 59)) := (Below.refl _ _).alloc (Nat.le_refl _) _
        have HV3 := Lib.hid (Elt.below (E := allowE) HV2.out al)
        obtain ⟨vs, o1, o2, o3⟩ := HRow.out.below al
        have H5 := Lib.hid (H3.out.below al)
        have H6 := Lib.hid (H4.out.then_below al)
        obtain ⟨ti, tz, tb, TE, hT⟩ := elA
        have HO2 := Lib.hid (And.intro o1 (And.intro o2 (And.intro o3 (And.intro TE hT))))
        have HL3 := Lib.hid (And.intro HL2.out.1 (And.intro HL2.out.2.1 (And.intro HL2.out.2.2 al.size)))
        clear o1 o2 o3 TE hT HL2 H3 H4 HV2 HRow al hbx
        go_wp2_with (at_builtin; refine walk_rows HO2.out.2.2.2.1 rfl _ _ rfl rfl rfl HO2.out.1 (by have := HL3.out.2; omega) (m := 1) rfl (new_cells _ _ ([.string (p si).1.ty, .string (p si).1.rel, .bool (p si).1.wild]) (by simp)) (by intro u' hu'; simp at hu'; rcases hu' with rfl | rfl | rfl <;> rfl) (by omega) (Nat.le_trans (Nat.mul_le_mul_left _ HO2.out.2.2.2.2) (by omega)) ?_)
        intro v2 zz r2 g2 n2
        have hrow : RowS allowE zz x.heap.size 59 v2 (l ++ [(p si).1]) :=
          RowS.grow (C := y.heap.size) (us := [alV (p si).1]) HO2.out.2.1 HO2.out.2.2.1 rfl (fun i a u hi hu => by
            cases i with
            | zero =>
              obtain rfl : (p si).1 = a := by simpa using hi
              obtain rfl := Option.some.inj hu
              exact HV3.out
            | succ i => simp at hi) (fun g hg _ => ⟨by have := HL3.out.2.1; omega, fun e => by have := HL3.out.1 g e; omega⟩) (by rw [cellsV_one]; exact r2) g2 n2
        have tg : Turns (fun k => (Value.slice lo l.length lc).ownBlock = some k) _ zz := Turns.of_grown g2 fun k hk => hk
        have hown : ∀ k, (Value.slice lo l.length lc).ownBlock = some k → x.heap.size ≤ k := fun k hk => (HO2.out.1.lt k hk).1
        have hIx := HI.out
        have hLo : Lo allowE 59 I N p R x v2 k' (l ++ [(p si).1]) (p si).2 zz :=
          ⟨hrow, H5.out.keep tg fun e => by have := hown I e; omega, H6.out.trans (G := fun k => (Value.slice lo l.length lc).ownBlock = some k) tg fun g hg e => by have := hown g e; omega, HO.out, HS.out⟩
        have HLo := Lib.hid hLo
        clear hrow tg hown hLo r2 g2 n2 HO2 HL3 HV3 H5 H6 HO HS hIx
        go_wp2_with fail
        go_roundw
        case rel => exact ⟨_, _, k', i + 1, by go_num, by omega, HLo⟩
        case measure => simp [intOf]; omega
    · obtain rfl : k = 0 := by omega
      have HO := Lib.hid (show R = (l, si) from HA.out.more.symm)
      have HT := Lib.hid (And.intro HA.out.row (And.intro HA.out.inn HA.out.turns))
      clear HA
      go_wp2_with fail
      go_ret
      rw [HO.out]
      exact ⟨_, rfl, HT.out.1, HT.out.2.1, HT.out.2.2⟩

set_option maxHeartbeats 8000000 in
set_option maxRecDepth 100000 in
theorem takeR_any {I N : Nat} {W : World} {f : FuncId} {cap0 : Array Value} {p : St → Rl × St} (most : Int) {s : St} (HE : ∀ args x, (callFunc f args).run Tryd.prog x = .ok (.enter f args) x) (hp : (numP most s).1 ≠ 0 → Part relU I N W f cap0 p) {x : World} (h : Inn x I (bs s.1) s.2) (hl : s.1.length ≤ N) (hN : N ≤ 90000000) (hW : Turns (At I) W x) :
    Calls Tryd.prog 26 #[iptr I, .int .i64 most, fnv f cap0] x (Outs relU 54 I (listP most p s) x) := by
  have HP := Lib.hid hp
  have HX := Lib.hid (And.intro hW (And.intro hl hN))
  have HC := Lib.hid (number_p I s most x h (by omega))
  have hbig := numP_big most s
  have hle := numP_le most s
  have hIl := h.lt
  clear hp hW h
  rw [show listP most p s = loopP p (numP most s).1 (numP most s).2 [] from rfl]
  generalize numP most s = q at *
  obtain ⟨n, s1⟩ := q
  simp only at hbig hle HC ⊢
  have HLe := Lib.hid (Nat.le_trans hle hl)
  have HI := Lib.hid hIl
  have hn17 : n ≤ 100000000000000000 := Nat.le_of_lt hbig
  clear hl hle hN hIl hbig
  go_enter Tryd.func26, Tryd.ntmps26
  go_wp2_with fail
  refine HC.out.mono ?_
  rintro e w1 ⟨rfl, h1, h2⟩
  have H0 : Lo relU 54 I N p (loopP p n s1 []) x (.slice none 0 0) n [] s1 w1 := ⟨RowS.nil _ _ _ _, h1, h2, rfl, by simpa using HLe.out⟩
  have HS0 := Lib.hid H0
  clear h1 h2 HC HLe H0
  generalize loopP p n s1 [] = R at *
  go_wp2_with fail
  go_loopw [7, 13] (fun lv iv wr => ∃ (l : List Rl) (si : St) (k i : Nat), iv = .int .i64 i ∧ i + k = n ∧ Hid (Lo relU 54 I N p R x lv k l si wr)) (fun _ iv _ => n - (intOf iv).toNat)
  case atStart => exact ⟨[], s1, n, 0, rfl, by omega, HS0⟩
  case round =>
    clear HS0
    obtain ⟨l, si, k, i, rfl, hik, HA⟩ := hrel
    obtain ⟨lo, lc, rfl⟩ := HA.out.row.slice
    by_cases hn : i < n
    · obtain ⟨k', rfl⟩ : ∃ k', k = k' + 1 := ⟨k - 1, by omega⟩
      have HL := Lib.hid (Knot.left_any I (bs si.1) si.2 wr HA.out.inn)
      have hsz : ((bs si.1).size : Int) = (si.1.length : Int) := by rw [bs_size]
      have HR := Lib.hid ((HP.out (by omega)).run si wr HA.out.inn (by have := HA.out.len; omega) (at_trans HX.out.1 HA.out.turns))
      cases hsi : si.1 with
      | nil =>
        rw [bs_size, hsi] at HL
        have HO := Lib.hid (show R = ([], (p si).2) by rw [← HA.out.more, loopP_off hsi])
        have HT := Lib.hid HA.out.turns
        clear hsi hsz HA
        go_wp2_with (go_at_call 24; refine HL.out.mono ?_; rintro e y ⟨rfl, rfl⟩)
        refine HR.out.mono ?_
        rintro e z ⟨v, rfl, hv, h3, h4⟩
        have HV := Lib.hid hv
        have HZ := Lib.hid (And.intro h3 (at_trans HT.out h4))
        clear hv h3 h4 HR
        obtain ⟨ao, cap, no, nc, B, rfl, -⟩ := (show RelU _ _ _ _ from HV.out)
        go_wp2_with fail
        go_ret
        rw [HO.out]
        refine ⟨_, rfl, RowS.nil _ _ _ _, HZ.out.1.below ((Below.refl _ _).alloc (Nat.le_refl _) _), HZ.out.2.then_below ((Below.refl _ _).alloc (Nat.le_refl _) _)⟩
      | cons b0 t0 =>
        have hne : si.1 ≠ [] := by rw [hsi]; simp
        have hlp := List.length_pos_iff.2 hne
        have hz0 : ((si.1.length : Int) == 0) = false := by simp; exact hne
        have hz1 : (((si.1.length : Nat) : Int) == (0 : Int)) = false := hz0
        rw [bs_size] at HL
        have HO := Lib.hid (show loopP p k' (p si).2 (l ++ [(p si).1]) = R by rw [← HA.out.more, loopP_on hne])
        have hsh := ((HP.out (by omega)).short si).resolve_right fun h => hne h.1
        have hlen := HA.out.len
        have HS := Lib.hid (show (l ++ [(p si).1]).length + (p si).2.1.length ≤ N by rw [List.length_append, List.length_singleton]; omega)
        have hll : l.length ≤ 90000000 := by have := HX.out.2.2; omega
        have HT := Lib.hid (And.intro HA.out.turns HA.out.row)
        clear hsi hsz HA hsh hlen hlp hne
        generalize si.1.length = sl at *
        go_wp2_with (go_at_call 24; refine HL.out.mono ?_; rintro e y ⟨rfl, rfl⟩)
        refine HR.out.mono ?_
        rintro e z ⟨v, rfl, hv, h3, h4⟩
        have HV := Lib.hid hv
        have hrow : RowS relU z x.heap.size 54 (Value.slice lo l.length lc) l := HT.out.2.turn h4 fun g hg _ e => by
          have := HI.out
          have e' : g = I := e
          omega
        have hlt : ∀ g, (Value.slice lo l.length lc).ownBlock = some g → g < y.heap.size := fun g hg => (HT.out.2.own_lt hg).2
        obtain ⟨ao, cap, no, nc, B, rfl, -⟩ := (show RelU _ _ _ _ from HV.out)
        have al0 : Below z.heap.size z (z.alloc (.cells #[.string (p si).1.name, .slice ao (p si).1.allow.length cap, .int .i64 (p si).1.expr.kind, .string (p si).1.expr.ta, .string (p si).1.expr.tb, .slice no (p si).1.expr.kids.length nc] 54)) := (Below.refl _ _).alloc (Nat.le_refl _) _
        have hbx := heap_alloc_new z (.cells #[.string (p si).1.name, .slice ao (p si).1.allow.length cap, .int .i64 (p si).1.expr.kind, .string (p si).1.expr.ta, .string (p si).1.expr.tb, .slice no (p si).1.expr.kids.length nc] 54)
        have HV2 := Lib.hid (Elt.below (E := relU) HV.out al0)
        have hrow2 := hrow.below al0
        have H3 := Lib.hid (h3.below al0)
        have H4 := Lib.hid ((at_trans HT.out.1 h4).then_below al0)
        have HL2 := Lib.hid (And.intro hlt (And.intro HT.out.1.size (Nat.le_trans h4.size al0.size)))
        have HRow := Lib.hid hrow2
        have hR : z.heap.size < (z.alloc (.cells #[.string (p si).1.name, .slice ao (p si).1.allow.length cap, .int .i64 (p si).1.expr.kind, .string (p si).1.expr.ta, .string (p si).1.expr.tb, .slice no (p si).1.expr.kids.length nc] 54)).heap.size := by simp
        clear hv h3 h4 hrow hrow2 hlt HT HV HL HE al0 HR
        go_upto_region 8 with fail
        generalize z.alloc (.cells #[.string (p si).1.name, .slice ao (p si).1.allow.length cap, .int .i64 (p si).1.expr.kind, .string (p si).1.expr.ta, .string (p si).1.expr.tb, .slice no (p si).1.expr.kids.length nc] 54) = Z at *
        generalize z.heap.size = Rb at *
        obtain ⟨c0, c1, c2, c3, c4, c5⟩ := Ck.box6 hbx
        have al : Below Z.heap.size Z (Z.alloc (.cells ([.string (p si).1.name, .slice ao (p si).1.allow.length cap, .int .i64 (p si).1.expr.kind, .string (p si).1.expr.ta, .string (p si).1.expr.tb, .slice no (p si).1.expr.kids.length nc]).toArray 54)) := (Below.refl _ _).alloc (Nat.le_refl _) _
        have HV3 := Lib.hid (Elt.below (E := relU) HV2.out al)
        obtain ⟨vs, o1, o2, o3⟩ := HRow.out.below al
        have H5 := Lib.hid (H3.out.below al)
        have H6 := Lib.hid (H4.out.then_below al)
        obtain ⟨ti, tz, tb, TE, hT⟩ := elR
        have HO2 := Lib.hid (And.intro o1 (And.intro o2 (And.intro o3 (And.intro TE hT))))
        have HL3 := Lib.hid (And.intro HL2.out.1 (And.intro HL2.out.2.1 (And.intro HL2.out.2.2 al.size)))
        clear o1 o2 o3 TE hT HL2 H3 H4 HV2 HRow al hbx
        go_wp2_with (at_builtin; refine walk_rows HO2.out.2.2.2.1 rfl _ _ rfl rfl rfl HO2.out.1 (by have := HL3.out.2; omega) (m := 1) rfl (new_cells _ _ ([.string (p si).1.name, .slice ao (p si).1.allow.length cap, .int .i64 (p si).1.expr.kind, .string (p si).1.expr.ta, .string (p si).1.expr.tb, .slice no (p si).1.expr.kids.length nc]) (by simp)) (by intro u' hu'; simp at hu'; rcases hu' with rfl | rfl | rfl | rfl | rfl | rfl <;> rfl) (by omega) (Nat.le_trans (Nat.mul_le_mul_left _ HO2.out.2.2.2.2) (by omega)) ?_)
        intro v2 zz r2 g2 n2
        have hrow : RowS relU zz x.heap.size 54 v2 (l ++ [(p si).1]) :=
          RowS.grow (C := y.heap.size) (us := [relV (p si).1 (.slice ao (p si).1.allow.length cap) (.slice no (p si).1.expr.kids.length nc)]) HO2.out.2.1 HO2.out.2.2.1 rfl (fun i a u hi hu => by
            cases i with
            | zero =>
              obtain rfl : (p si).1 = a := by simpa using hi
              obtain rfl := Option.some.inj hu
              exact HV3.out
            | succ i => simp at hi) (fun g hg _ => ⟨by have := HL3.out.2.1; omega, fun e => by have := HL3.out.1 g e; omega⟩) (by rw [cellsV_one]; exact r2) g2 n2
        have tg : Turns (fun k => (Value.slice lo l.length lc).ownBlock = some k) _ zz := Turns.of_grown g2 fun k hk => hk
        have hown : ∀ k, (Value.slice lo l.length lc).ownBlock = some k → x.heap.size ≤ k := fun k hk => (HO2.out.1.lt k hk).1
        have hIx := HI.out
        have hLo : Lo relU 54 I N p R x v2 k' (l ++ [(p si).1]) (p si).2 zz :=
          ⟨hrow, H5.out.keep tg fun e => by have := hown I e; omega, H6.out.trans (G := fun k => (Value.slice lo l.length lc).ownBlock = some k) tg fun g hg e => by have := hown g e; omega, HO.out, HS.out⟩
        have HLo := Lib.hid hLo
        clear hrow tg hown hLo r2 g2 n2 HO2 HL3 HV3 H5 H6 HO HS hIx
        go_wp2_with fail
        go_roundw
        case rel => exact ⟨_, _, k', i + 1, by go_num, by omega, HLo⟩
        case measure => simp [intOf]; omega
    · obtain rfl : k = 0 := by omega
      have HO := Lib.hid (show R = (l, si) from HA.out.more.symm)
      have HT := Lib.hid (And.intro HA.out.row (And.intro HA.out.inn HA.out.turns))
      clear HA
      go_wp2_with fail
      go_ret
      rw [HO.out]
      exact ⟨_, rfl, HT.out.1, HT.out.2.1, HT.out.2.2⟩

set_option maxHeartbeats 8000000 in
set_option maxRecDepth 100000 in
theorem takeT_any {I N : Nat} {W : World} {f : FuncId} {cap0 : Array Value} {p : St → Ty × St} (most : Int) {s : St} (HE : ∀ args x, (callFunc f args).run Tryd.prog x = .ok (.enter f args) x) (hp : (numP most s).1 ≠ 0 → Part tyU I N W f cap0 p) {x : World} (h : Inn x I (bs s.1) s.2) (hl : s.1.length ≤ N) (hN : N ≤ 90000000) (hW : Turns (At I) W x) :
    Calls Tryd.prog 10 #[iptr I, .int .i64 most, fnv f cap0] x (Outs tyU 38 I (listP most p s) x) := by
  have HP := Lib.hid hp
  have HX := Lib.hid (And.intro hW (And.intro hl hN))
  have HC := Lib.hid (number_p I s most x h (by omega))
  have hbig := numP_big most s
  have hle := numP_le most s
  have hIl := h.lt
  clear hp hW h
  rw [show listP most p s = loopP p (numP most s).1 (numP most s).2 [] from rfl]
  generalize numP most s = q at *
  obtain ⟨n, s1⟩ := q
  simp only at hbig hle HC ⊢
  have HLe := Lib.hid (Nat.le_trans hle hl)
  have HI := Lib.hid hIl
  have hn17 : n ≤ 100000000000000000 := Nat.le_of_lt hbig
  clear hl hle hN hIl hbig
  go_enter Tryd.func10, Tryd.ntmps10
  go_wp2_with fail
  refine HC.out.mono ?_
  rintro e w1 ⟨rfl, h1, h2⟩
  have H0 : Lo tyU 38 I N p (loopP p n s1 []) x (.slice none 0 0) n [] s1 w1 := ⟨RowS.nil _ _ _ _, h1, h2, rfl, by simpa using HLe.out⟩
  have HS0 := Lib.hid H0
  clear h1 h2 HC HLe H0
  generalize loopP p n s1 [] = R at *
  go_wp2_with fail
  go_loopw [7, 13] (fun lv iv wr => ∃ (l : List Ty) (si : St) (k i : Nat), iv = .int .i64 i ∧ i + k = n ∧ Hid (Lo tyU 38 I N p R x lv k l si wr)) (fun _ iv _ => n - (intOf iv).toNat)
  case atStart => exact ⟨[], s1, n, 0, rfl, by omega, HS0⟩
  case round =>
    clear HS0
    obtain ⟨l, si, k, i, rfl, hik, HA⟩ := hrel
    obtain ⟨lo, lc, rfl⟩ := HA.out.row.slice
    by_cases hn : i < n
    · obtain ⟨k', rfl⟩ : ∃ k', k = k' + 1 := ⟨k - 1, by omega⟩
      have HL := Lib.hid (Knot.left_any I (bs si.1) si.2 wr HA.out.inn)
      have hsz : ((bs si.1).size : Int) = (si.1.length : Int) := by rw [bs_size]
      have HR := Lib.hid ((HP.out (by omega)).run si wr HA.out.inn (by have := HA.out.len; omega) (at_trans HX.out.1 HA.out.turns))
      cases hsi : si.1 with
      | nil =>
        rw [bs_size, hsi] at HL
        have HO := Lib.hid (show R = ([], (p si).2) by rw [← HA.out.more, loopP_off hsi])
        have HT := Lib.hid HA.out.turns
        clear hsi hsz HA
        go_wp2_with (go_at_call 24; refine HL.out.mono ?_; rintro e y ⟨rfl, rfl⟩)
        refine HR.out.mono ?_
        rintro e z ⟨v, rfl, hv, h3, h4⟩
        have HV := Lib.hid hv
        have HZ := Lib.hid (And.intro h3 (at_trans HT.out h4))
        clear hv h3 h4 HR
        obtain ⟨ao, cap, us, B, rfl, -⟩ := (show TyU _ _ _ _ from HV.out)
        go_wp2_with fail
        go_ret
        rw [HO.out]
        refine ⟨_, rfl, RowS.nil _ _ _ _, HZ.out.1.below ((Below.refl _ _).alloc (Nat.le_refl _) _), HZ.out.2.then_below ((Below.refl _ _).alloc (Nat.le_refl _) _)⟩
      | cons b0 t0 =>
        have hne : si.1 ≠ [] := by rw [hsi]; simp
        have hlp := List.length_pos_iff.2 hne
        have hz0 : ((si.1.length : Int) == 0) = false := by simp; exact hne
        have hz1 : (((si.1.length : Nat) : Int) == (0 : Int)) = false := hz0
        rw [bs_size] at HL
        have HO := Lib.hid (show loopP p k' (p si).2 (l ++ [(p si).1]) = R by rw [← HA.out.more, loopP_on hne])
        have hsh := ((HP.out (by omega)).short si).resolve_right fun h => hne h.1
        have hlen := HA.out.len
        have HS := Lib.hid (show (l ++ [(p si).1]).length + (p si).2.1.length ≤ N by rw [List.length_append, List.length_singleton]; omega)
        have hll : l.length ≤ 90000000 := by have := HX.out.2.2; omega
        have HT := Lib.hid (And.intro HA.out.turns HA.out.row)
        clear hsi hsz HA hsh hlen hlp hne
        generalize si.1.length = sl at *
        go_wp2_with (go_at_call 24; refine HL.out.mono ?_; rintro e y ⟨rfl, rfl⟩)
        refine HR.out.mono ?_
        rintro e z ⟨v, rfl, hv, h3, h4⟩
        have HV := Lib.hid hv
        have hrow : RowS tyU z x.heap.size 38 (Value.slice lo l.length lc) l := HT.out.2.turn h4 fun g hg _ e => by
          have := HI.out
          have e' : g = I := e
          omega
        have hlt : ∀ g, (Value.slice lo l.length lc).ownBlock = some g → g < y.heap.size := fun g hg => (HT.out.2.own_lt hg).2
        obtain ⟨ao, cap, us, B, rfl, -⟩ := (show TyU _ _ _ _ from HV.out)
        have al0 : Below z.heap.size z (z.alloc (.cells #[.string (p si).1.name, .slice ao (p si).1.rels.length cap] 38)) := (Below.refl _ _).alloc (Nat.le_refl _) _
        have hbx := heap_alloc_new z (.cells #[.string (p si).1.name, .slice ao (p si).1.rels.length cap] 38)
        have HV2 := Lib.hid (Elt.below (E := tyU) HV.out al0)
        have hrow2 := hrow.below al0
        have H3 := Lib.hid (h3.below al0)
        have H4 := Lib.hid ((at_trans HT.out.1 h4).then_below al0)
        have HL2 := Lib.hid (And.intro hlt (And.intro HT.out.1.size (Nat.le_trans h4.size al0.size)))
        have HRow := Lib.hid hrow2
        have hR : z.heap.size < (z.alloc (.cells #[.string (p si).1.name, .slice ao (p si).1.rels.length cap] 38)).heap.size := by simp
        clear hv h3 h4 hrow hrow2 hlt HT HV HL HE al0 HR
        go_upto_region 8 with fail
        generalize z.alloc (.cells #[.string (p si).1.name, .slice ao (p si).1.rels.length cap] 38) = Z at *
        generalize z.heap.size = Rb at *
        obtain ⟨c0, c1⟩ := Ck.box2 hbx
        have al : Below Z.heap.size Z (Z.alloc (.cells ([.string (p si).1.name, .slice ao (p si).1.rels.length cap]).toArray 38)) := (Below.refl _ _).alloc (Nat.le_refl _) _
        have HV3 := Lib.hid (Elt.below (E := tyU) HV2.out al)
        obtain ⟨vs, o1, o2, o3⟩ := HRow.out.below al
        have H5 := Lib.hid (H3.out.below al)
        have H6 := Lib.hid (H4.out.then_below al)
        obtain ⟨ti, tz, tb, TE, hT⟩ := elT
        have HO2 := Lib.hid (And.intro o1 (And.intro o2 (And.intro o3 (And.intro TE hT))))
        have HL3 := Lib.hid (And.intro HL2.out.1 (And.intro HL2.out.2.1 (And.intro HL2.out.2.2 al.size)))
        clear o1 o2 o3 TE hT HL2 H3 H4 HV2 HRow al hbx
        go_wp2_with (at_builtin; refine walk_rows HO2.out.2.2.2.1 rfl _ _ rfl rfl rfl HO2.out.1 (by have := HL3.out.2; omega) (m := 1) rfl (new_cells _ _ ([.string (p si).1.name, .slice ao (p si).1.rels.length cap]) (by simp)) (by intro u' hu'; simp at hu'; rcases hu' with rfl | rfl <;> rfl) (by omega) (Nat.le_trans (Nat.mul_le_mul_left _ HO2.out.2.2.2.2) (by omega)) ?_)
        intro v2 zz r2 g2 n2
        have hrow : RowS tyU zz x.heap.size 38 v2 (l ++ [(p si).1]) :=
          RowS.grow (C := y.heap.size) (us := [tyV (p si).1 (.slice ao (p si).1.rels.length cap)]) HO2.out.2.1 HO2.out.2.2.1 rfl (fun i a u hi hu => by
            cases i with
            | zero =>
              obtain rfl : (p si).1 = a := by simpa using hi
              obtain rfl := Option.some.inj hu
              exact HV3.out
            | succ i => simp at hi) (fun g hg _ => ⟨by have := HL3.out.2.1; omega, fun e => by have := HL3.out.1 g e; omega⟩) (by rw [cellsV_one]; exact r2) g2 n2
        have tg : Turns (fun k => (Value.slice lo l.length lc).ownBlock = some k) _ zz := Turns.of_grown g2 fun k hk => hk
        have hown : ∀ k, (Value.slice lo l.length lc).ownBlock = some k → x.heap.size ≤ k := fun k hk => (HO2.out.1.lt k hk).1
        have hIx := HI.out
        have hLo : Lo tyU 38 I N p R x v2 k' (l ++ [(p si).1]) (p si).2 zz :=
          ⟨hrow, H5.out.keep tg fun e => by have := hown I e; omega, H6.out.trans (G := fun k => (Value.slice lo l.length lc).ownBlock = some k) tg fun g hg e => by have := hown g e; omega, HO.out, HS.out⟩
        have HLo := Lib.hid hLo
        clear hrow tg hown hLo r2 g2 n2 HO2 HL3 HV3 H5 H6 HO HS hIx
        go_wp2_with fail
        go_roundw
        case rel => exact ⟨_, _, k', i + 1, by go_num, by omega, HLo⟩
        case measure => simp [intOf]; omega
    · obtain rfl : k = 0 := by omega
      have HO := Lib.hid (show R = (l, si) from HA.out.more.symm)
      have HT := Lib.hid (And.intro HA.out.row (And.intro HA.out.inn HA.out.turns))
      clear HA
      go_wp2_with fail
      go_ret
      rw [HO.out]
      exact ⟨_, rfl, HT.out.1, HT.out.2.1, HT.out.2.2⟩
end Ck
end Go.Proofs.YtopncohhagebbaaDoor
