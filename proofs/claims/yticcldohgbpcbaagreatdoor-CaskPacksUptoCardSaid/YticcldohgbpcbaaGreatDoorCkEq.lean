/-
  Layer 10 (cask): Same, at a configuration in new memory, and the same one once more.
-/
import Derived.Test.YticcldohgbpcbaaGreatDoorCkSame
import Derived.Test.YticcldohgbpcbaaGreatDoorCkCfg
namespace Go.Proofs.YticcldohgbpcbaaGreatDoor
open Go.RowKit Go.Sort
namespace Ck
open Knot (Turns)
open Tr (Nd none0 node4 IsNode size)
open Gr (Al Rl Ty IsAl IsRl IsTy IsCf Lies ty_at rl_at al_at alV relV tyV tAl tRl tTy tCf elemRl sizeRl elemTy sizeTy)

set_option maxHeartbeats 4000000 in
set_option maxRecDepth 100000 in
theorem eqA_any {l : List Al} {ao bo : Option Addr} {cap dap : Nat} {us vs : List Value} {w : World} (h1 : Lies IsAl 3 w ao l us) (h2 : Lies IsAl 3 w bo l vs) :
    Calls Tryz.prog 56 #[.slice ao l.length cap, .slice bo l.length dap] w fun e x => e = .returned (.bool true) ∧ Below w.heap.size w x := by
  have HL := Lib.hid (And.intro h1 h2)
  have hbig : l.length ≤ 9223372036854775807 := h1.big
  clear h1 h2
  go_enter Tryz.func56, Tryz.ntmps56
  go_wp2_with fail
  go_loopw [13] (fun i x => ∃ m : Nat, m ≤ l.length ∧ i = .int .i64 m ∧ Below w.heap.size w x) (fun i _ => l.length - (intOf i).toNat)
  case atStart => exact ⟨0, by omega, rfl, Below.refl _ _⟩
  case round =>
    obtain ⟨m, hm, rfl, hb⟩ := hrel
    by_cases hmt : m < l.length
    · obtain ⟨g3, q3, kx1, hg3, a0, a1, a2⟩ := al_at (HL.out.1.on hb fun _ _ h => h) cap hmt
      obtain ⟨g3', q3', kx2, hg3', c0, c1, c2⟩ := al_at (HL.out.2.on hb fun _ _ h => h) dap hmt
      generalize l[m] = al at *
      have HX := Lib.hid hb
      have hsame := al_same al
      clear hb hg3 hg3'
      go_wp2_with fail
      go_quiet (fail)
      go_wp2_with fail
      go_roundw
      case rel => exact ⟨m + 1, by omega, by go_num, below_drewN HX.out _⟩
      case measure => simp [intOf]; omega
    · have HX := Lib.hid hb
      clear hb
      go_wp2_with fail
      go_ret
      exact ⟨rfl, HX.out⟩

set_option maxHeartbeats 4000000 in
set_option maxRecDepth 100000 in
theorem sameRel_any {r : Rl} {u v : Value} {w : World} (hu : IsRlU w r u) (hv : IsRl w r v) (hz : size r.expr ≤ 300) :
    Calls Tryz.prog 55 #[u, v] w fun e x => e = .returned (.bool true) ∧ Below w.heap.size w x := by
  obtain ⟨S, uo, uc, uno, unc, B, rfl, ⟨us, o1, o2, o3⟩, -, G, hnR, hnd, -⟩ := hu
  obtain ⟨vo, vc, vno, vnc, vs, rfl, hla, hnd2⟩ := hv
  have hlu : Lies IsAl 3 w uo r.allow us := Lies.of_own o1 o2 (Gr.cellsV_len (E := Gr.allowE) o2 o3) fun i a u hi hu => o3 i a u hi hu
  obtain ⟨q1, q2, q3, q4⟩ := Gr.two_boxes w #[.string r.name, .slice uo r.allow.length uc, .int .i64 r.expr.kind, .string r.expr.ta, .string r.expr.tb, .slice uno r.expr.kids.length unc] #[.string r.name, .slice vo r.allow.length vc, .int .i64 r.expr.kind, .string r.expr.ta, .string r.expr.tb, .slice vno r.expr.kids.length vnc] tRl tRl
  have H0 := Lib.hid (And.intro q1 (And.intro q2 (And.intro q3 (And.intro (hlu.on q1 fun _ _ h => h) (hla.on q1 fun _ _ h => h)))))
  have HN := Lib.hid (And.intro hnR (And.intro hnd (And.intro hnd2 hz)))
  clear q1 q2 q3 q4 hlu hla hnR hnd hnd2 hz o1 o2 o3
  have HA := Lib.hid (eqA_any (cap := uc) (dap := vc) H0.out.2.2.2.1 H0.out.2.2.2.2)
  obtain ⟨x0, x1, x2, x3, x4, x5⟩ := box6 H0.out.2.1
  obtain ⟨z0, z1, z2, z3, z4, z5⟩ := box6 H0.out.2.2.1
  go_enter Tryz.func55, Tryz.ntmps55
  go_upto_region 1 with fail
  generalize (w.alloc (.cells #[.string r.name, .slice uo r.allow.length uc, .int .i64 r.expr.kind, .string r.expr.ta, .string r.expr.tb, .slice uno r.expr.kids.length unc] 52)).alloc (.cells #[.string r.name, .slice vo r.allow.length vc, .int .i64 r.expr.kind, .string r.expr.ta, .string r.expr.tb, .slice vno r.expr.kids.length vnc] 52) = X at *
  go_wp2_with fail
  refine HA.out.mono ?_
  rintro e y ⟨rfl, hy⟩
  have hbw := H0.out.1.trans (hy.mono H0.out.1.size)
  have hS := same_any r.expr _ _ G y (NodeR.on _ _ _ G (Nat.le_refl _) HN.out.1 fun g hg => hbw.block g (NodeR.at_lt HN.out.1 hg)) HN.out.2.1 (HN.out.2.2.1.below hbw) HN.out.2.2.2
  have b0 := (hy.block _ (Array.getElem?_eq_some_iff.1 H0.out.2.1).1).trans H0.out.2.1
  have b1 := (hy.block _ (Array.getElem?_eq_some_iff.1 H0.out.2.2.1).1).trans H0.out.2.2.1
  have HS := Lib.hid hS
  have HB := Lib.hid hbw
  clear x0 x1 x2 x3 x4 x5 z0 z1 z2 z3 z4 z5 hy hbw hS HA H0 HN
  obtain ⟨-, -, x2, x3, x4, x5⟩ := box6 b0
  obtain ⟨-, -, z2, z3, z4, z5⟩ := box6 b1
  clear b0 b1
  go_wp2_with fail
  refine HS.out.mono ?_
  rintro e y2 ⟨rfl, hy⟩
  have HB2 := Lib.hid (HB.out.trans (hy.mono HB.out.size))
  clear hy HB HS x2 x3 x4 x5 z2 z3 z4 z5
  go_wp2_with fail
  go_ret
  exact ⟨rfl, HB2.out⟩

theorem rlU_at {w : World} {ao : Option Addr} {us : List Value} {l : List Rl} (h : Lies IsRlU 6 w ao l us) (cap : Nat) {i : Nat} (hi : i < l.length) :
    ∃ g q ro rc no nc, (∀ W, (Instr.indexAt 41 (.slice ao l.length cap) (.int .i64 (i : Int))).run Tryz.prog W = .ok (.pointer (some ⟨g, q, none⟩)) W) ∧ g < w.heap.size ∧
      w.cell? ⟨g, q, none⟩ = some (.string l[i].name) ∧ w.cell? ⟨g, q + 1, none⟩ = some (.slice ro l[i].allow.length rc) ∧ w.cell? ⟨g, q + 2, none⟩ = some (.int .i64 l[i].expr.kind) ∧ w.cell? ⟨g, q + 3, none⟩ = some (.string l[i].expr.ta) ∧
      w.cell? ⟨g, q + 4, none⟩ = some (.string l[i].expr.tb) ∧ w.cell? ⟨g, q + 5, none⟩ = some (.slice no l[i].expr.kids.length nc) ∧ IsRlU w l[i] (relV l[i] (.slice ro l[i].allow.length rc) (.slice no l[i].expr.kids.length nc)) := by
  obtain ⟨g, q, u, h1, h2, h3, h4⟩ := h.at elemRl sizeRl (by decide) cap hi
  obtain ⟨S, ro, rc, no, nc, B, rfl, h5⟩ := id h4
  exact ⟨g, q, ro, rc, no, nc, h1, h2, h3 0 _ rfl, h3 1 _ rfl, h3 2 _ rfl, h3 3 _ rfl, h3 4 _ rfl, h3 5 _ rfl, h4⟩
theorem tyU_at {w : World} {ao : Option Addr} {us : List Value} {l : List Ty} (h : Lies IsTyU 2 w ao l us) (cap : Nat) {i : Nat} (hi : i < l.length) :
    ∃ g q ro rc, (∀ W, (Instr.indexAt 22 (.slice ao l.length cap) (.int .i64 (i : Int))).run Tryz.prog W = .ok (.pointer (some ⟨g, q, none⟩)) W) ∧ g < w.heap.size ∧
      w.cell? ⟨g, q, none⟩ = some (.string l[i].name) ∧ w.cell? ⟨g, q + 1, none⟩ = some (.slice ro l[i].rels.length rc) ∧ IsTyU w l[i] (tyV l[i] (.slice ro l[i].rels.length rc)) := by
  obtain ⟨g, q, u, h1, h2, h3, h4⟩ := h.at elemTy sizeTy (by decide) cap hi
  obtain ⟨ro, rc, vs, rfl, h5⟩ := id h4
  exact ⟨g, q, ro, rc, h1, h2, h3 0 _ rfl, h3 1 _ rfl, h4⟩

set_option maxHeartbeats 4000000 in
set_option maxRecDepth 100000 in
theorem eqR_any (f : FuncId) (cap0 : Array Value) (HE : ∀ args x, (callFunc f args).run Tryz.prog x = .ok (.enter f args) x) {l : List Rl} {ao bo : Option Addr} {cap dap : Nat} {us vs : List Value} {w : World} (h1 : Lies IsRlU 6 w ao l us) (h2 : Lies IsRl 6 w bo l vs)
    (hr : ∀ t ∈ l, ∀ x u v, Below w.heap.size w x → IsRlU x t u → IsRl x t v → Calls Tryz.prog f (#[u, v] ++ cap0) x fun e y => e = .returned (.bool true) ∧ Below x.heap.size x y) :
    Calls Tryz.prog 59 #[.slice ao l.length cap, .slice bo l.length dap, .func (.func f) #[] cap0] w fun e x => e = .returned (.bool true) ∧ Below w.heap.size w x := by
  have HL := Lib.hid (And.intro h1 h2)
  have HR := Lib.hid hr
  have hbig : l.length ≤ 9223372036854775807 := h1.big
  clear h1 h2 hr
  go_enter Tryz.func59, Tryz.ntmps59
  go_wp2_with fail
  go_loopw [17] (fun i x => ∃ m : Nat, m ≤ l.length ∧ i = .int .i64 m ∧ Below w.heap.size w x) (fun i _ => l.length - (intOf i).toNat)
  case atStart => exact ⟨0, by omega, rfl, Below.refl _ _⟩
  case round =>
    obtain ⟨m, hm, rfl, hb⟩ := hrel
    by_cases hmt : m < l.length
    · obtain ⟨g, q, so, sc, no, nc, ix1, hg, c0, c1, c2, c3, c4, c5, hP⟩ := rlU_at (HL.out.1.on hb fun _ _ h => h.below hb) cap hmt
      obtain ⟨g', q', so', sc', no', nc', ss', ix2, hg', d0, d1, d2, d3, d4, d5, hl2, hn2⟩ := rl_at (HL.out.2.on hb fun _ _ h => h.below hb) dap hmt
      have hQ : IsRl wr l[m] (relV l[m] (.slice so' l[m].allow.length sc') (.slice no' l[m].expr.kids.length nc')) := ⟨so', sc', no', nc', ss', rfl, hl2, hn2⟩
      clear hl2 hn2
      have hC := HR.out l[m] (List.getElem_mem hmt)
      generalize l[m] = t at *
      obtain ⟨q1, q2, q3, q4⟩ := Gr.two_boxes wr #[.string t.name, .slice so t.allow.length sc, .int .i64 t.expr.kind, .string t.expr.ta, .string t.expr.tb, .slice no t.expr.kids.length nc] #[.string t.name, .slice so' t.allow.length sc', .int .i64 t.expr.kind, .string t.expr.ta, .string t.expr.tb, .slice no' t.expr.kids.length nc'] 52 52
      have b1 : Below wr.heap.size wr (wr.alloc (.cells #[.string t.name, .slice so t.allow.length sc, .int .i64 t.expr.kind, .string t.expr.ta, .string t.expr.tb, .slice no t.expr.kids.length nc] 52)) := (Below.refl _ _).alloc (Nat.le_refl _) _
      have e0 := (b1.cell (p := ⟨g', q', none⟩) hg').trans d0
      have e1 := (b1.cell (p := ⟨g', q' + 1, none⟩) hg').trans d1
      have e2 := (b1.cell (p := ⟨g', q' + 2, none⟩) hg').trans d2
      have e3 := (b1.cell (p := ⟨g', q' + 3, none⟩) hg').trans d3
      have e4 := (b1.cell (p := ⟨g', q' + 4, none⟩) hg').trans d4
      have e5 := (b1.cell (p := ⟨g', q' + 5, none⟩) hg').trans d5
      have hbw := hb.trans (q1.mono hb.size)
      have HC := Lib.hid (hC _ _ _ hbw (hP.below q1) (hQ.below q1))
      have HB := Lib.hid hbw
      have K0 := q2
      have K1 := q3
      clear hP hQ hb hg hg' q1 q2 q3 q4 b1 hC hbw d0 d1 d2 d3 d4 d5
      go_upto_region 7 with fail
      generalize (wr.alloc (.cells #[.string t.name, .slice so t.allow.length sc, .int .i64 t.expr.kind, .string t.expr.ta, .string t.expr.tb, .slice no t.expr.kids.length nc] 52)).alloc (.cells #[.string t.name, .slice so' t.allow.length sc', .int .i64 t.expr.kind, .string t.expr.ta, .string t.expr.tb, .slice no' t.expr.kids.length nc'] 52) = X at *
      generalize wr.heap.size = R at *
      obtain ⟨x0, x1, x2, x3, x4, x5⟩ := box6 K0
      obtain ⟨z0, z1, z2, z3, z4, z5⟩ := box6 K1
      clear K0 K1 ix1 ix2 c0 c1 c2 c3 c4 c5 e0 e1 e2 e3 e4 e5
      go_wp2_with fail
      refine HC.out.mono ?_
      rintro e y ⟨rfl, hy⟩
      have HY := Lib.hid (HB.out.trans (hy.mono HB.out.size))
      clear hy HB HC x0 x1 x2 x3 x4 x5 z0 z1 z2 z3 z4 z5
      go_wp2_with fail
      go_roundw
      case rel => exact ⟨m + 1, by omega, by go_num, HY.out⟩
      case measure => simp [intOf]; omega
    · have HX := Lib.hid hb
      clear hb
      go_wp2_with fail
      go_ret
      exact ⟨rfl, HX.out⟩

set_option maxHeartbeats 4000000 in
set_option maxRecDepth 100000 in
theorem eqT_any (f : FuncId) (cap0 : Array Value) (HE : ∀ args x, (callFunc f args).run Tryz.prog x = .ok (.enter f args) x) {l : List Ty} {ao bo : Option Addr} {cap dap : Nat} {us vs : List Value} {w : World} (h1 : Lies IsTyU 2 w ao l us) (h2 : Lies IsTy 2 w bo l vs)
    (hr : ∀ t ∈ l, ∀ x u v, Below w.heap.size w x → IsTyU x t u → IsTy x t v → Calls Tryz.prog f (#[u, v] ++ cap0) x fun e y => e = .returned (.bool true) ∧ Below x.heap.size x y) :
    Calls Tryz.prog 60 #[.slice ao l.length cap, .slice bo l.length dap, .func (.func f) #[] cap0] w fun e x => e = .returned (.bool true) ∧ Below w.heap.size w x := by
  have HL := Lib.hid (And.intro h1 h2)
  have HR := Lib.hid hr
  have hbig : l.length ≤ 9223372036854775807 := h1.big
  clear h1 h2 hr
  go_enter Tryz.func60, Tryz.ntmps60
  go_wp2_with fail
  go_loopw [17] (fun i x => ∃ m : Nat, m ≤ l.length ∧ i = .int .i64 m ∧ Below w.heap.size w x) (fun i _ => l.length - (intOf i).toNat)
  case atStart => exact ⟨0, by omega, rfl, Below.refl _ _⟩
  case round =>
    obtain ⟨m, hm, rfl, hb⟩ := hrel
    by_cases hmt : m < l.length
    · obtain ⟨g, q, so, sc, ix1, hg, c0, c1, hP⟩ := tyU_at (HL.out.1.on hb fun _ _ h => h.below hb) cap hmt
      obtain ⟨g', q', so', sc', ss', ix2, hg', d0, d1, hl2⟩ := ty_at (HL.out.2.on hb fun _ _ h => h.below hb) dap hmt
      have hQ : IsTy wr l[m] (tyV l[m] (.slice so' l[m].rels.length sc')) := ⟨so', sc', ss', rfl, hl2⟩
      clear hl2
      have hC := HR.out l[m] (List.getElem_mem hmt)
      generalize l[m] = t at *
      obtain ⟨q1, q2, q3, q4⟩ := Gr.two_boxes wr #[.string t.name, .slice so t.rels.length sc] #[.string t.name, .slice so' t.rels.length sc'] 43 43
      have b1 : Below wr.heap.size wr (wr.alloc (.cells #[.string t.name, .slice so t.rels.length sc] 43)) := (Below.refl _ _).alloc (Nat.le_refl _) _
      have e0 := (b1.cell (p := ⟨g', q', none⟩) hg').trans d0
      have e1 := (b1.cell (p := ⟨g', q' + 1, none⟩) hg').trans d1
      have hbw := hb.trans (q1.mono hb.size)
      have HC := Lib.hid (hC _ _ _ hbw (hP.below q1) (hQ.below q1))
      have HB := Lib.hid hbw
      have K0 := q2
      have K1 := q3
      clear hP hQ hb hg hg' q1 q2 q3 q4 b1 hC hbw d0 d1
      go_upto_region 7 with fail
      generalize (wr.alloc (.cells #[.string t.name, .slice so t.rels.length sc] 43)).alloc (.cells #[.string t.name, .slice so' t.rels.length sc'] 43) = X at *
      generalize wr.heap.size = R at *
      obtain ⟨x0, x1⟩ := box2 K0
      obtain ⟨z0, z1⟩ := box2 K1
      clear K0 K1 ix1 ix2 c0 c1 e0 e1
      go_wp2_with fail
      refine HC.out.mono ?_
      rintro e y ⟨rfl, hy⟩
      have HY := Lib.hid (HB.out.trans (hy.mono HB.out.size))
      clear hy HB HC x0 x1 z0 z1
      go_wp2_with fail
      go_roundw
      case rel => exact ⟨m + 1, by omega, by go_num, HY.out⟩
      case measure => simp [intOf]; omega
    · have HX := Lib.hid hb
      clear hb
      go_wp2_with fail
      go_ret
      exact ⟨rfl, HX.out⟩

theorem enter_same1 : ∀ args W, (callFunc 55 args).run Tryz.prog W = .ok (.enter 55 args) W := fun args W => by kernel_rfl
theorem enter_same2 : ∀ args W, (callFunc 58 args).run Tryz.prog W = .ok (.enter 58 args) W := fun args W => by kernel_rfl
/-- No expression of a type is too great. -/
def SmallT (t : Ty) : Prop := ∀ r ∈ t.rels, size r.expr ≤ 300
set_option maxHeartbeats 4000000 in
set_option maxRecDepth 100000 in
theorem sameType_any {t : Ty} {u v : Value} {w : World} {b : Nat} {T : TypeId} (hu : IsTyU w t u) (hv : IsTy w t v) (hz : SmallT t) (hb : w.heap[b]? = some (.cells #[.func (.func 55) #[] #[]] T (0, 0))) :
    Calls Tryz.prog 58 #[u, v, .pointer (some ⟨b, 0, none⟩)] w fun e x => e = .returned (.bool true) ∧ Below w.heap.size w x := by
  obtain ⟨uo, uc, us, rfl, hlu⟩ := hu
  obtain ⟨vo, vc, vs, rfl, hla⟩ := hv
  obtain ⟨q1, q2, q3, q4⟩ := Gr.two_boxes w #[.string t.name, .slice uo t.rels.length uc] #[.string t.name, .slice vo t.rels.length vc] tTy tTy
  have H0 := Lib.hid (And.intro q1 (And.intro q2 (And.intro q3 ((q1.block b (Array.getElem?_eq_some_iff.1 hb).1).trans hb))))
  have HE := Lib.hid (eqR_any (cap := uc) (dap := vc) 55 #[] enter_same1 (hlu.on q1 fun _ _ h => h.below q1) (hla.on q1 fun _ _ h => h.below q1) fun r hr x u v hx h1 h2 => sameRel_any h1 h2 (hz r hr))
  clear q1 q2 q3 q4 hlu hla hz hb
  obtain ⟨x0, x1⟩ := box2 H0.out.2.1
  obtain ⟨z0, z1⟩ := box2 H0.out.2.2.1
  have y0 := Gr.box1 H0.out.2.2.2
  go_enter Tryz.func58, Tryz.ntmps58
  go_upto_region 1 with fail
  generalize (w.alloc (.cells #[.string t.name, .slice uo t.rels.length uc] 43)).alloc (.cells #[.string t.name, .slice vo t.rels.length vc] 43) = X at *
  go_wp2_with fail
  refine HE.out.mono ?_
  rintro e y ⟨rfl, hy⟩
  have HB := Lib.hid (H0.out.1.trans (hy.mono H0.out.1.size))
  clear hy HE H0 x0 x1 z0 z1 y0
  go_wp2_with fail
  go_ret
  exact ⟨rfl, HB.out⟩
set_option maxHeartbeats 4000000 in
set_option maxRecDepth 100000 in
/-- Same: of one configuration, twice. -/
theorem samec_any {l : List Ty} {u v : Value} {w : World} {B : Nat} (hu : CfU w B l u) (hv : IsCf w l v) (hz : ∀ t ∈ l, SmallT t) :
    Calls Tryz.prog 22 #[u, v] w fun e x => e = .returned (.bool true) ∧ Below w.heap.size w x := by
  obtain ⟨uo, uc, us, rfl, hlu⟩ := hu.lies
  obtain ⟨vo, vc, vs, rfl, hla⟩ := hv
  obtain ⟨q1, q2, q3, q4⟩ := Gr.two_boxes w #[.slice uo l.length uc] #[.slice vo l.length vc] tCf tCf
  have HQ := Lib.hid (And.intro q1 (And.intro q2 (And.intro q3 q4)))
  have HL := Lib.hid (And.intro (hlu.on q1 fun _ _ h => h.below q1) (hla.on q1 fun _ _ h => h.below q1))
  have HZ := Lib.hid hz
  clear hlu hla hz q1 q2 q3 q4 hu
  go_enter Tryz.func22, Tryz.ntmps22
  go_upto_region 1 with fail
  generalize (w.alloc (.cells #[.slice uo l.length uc] 24)).alloc (.cells #[.slice vo l.length vc] 24) = X at *
  have al := Tr.fresh_one X (.cells #[.func (.func 55) #[] #[]] 117)
  have hk := heap_alloc_new X (.cells #[.func (.func 55) #[] #[]] 117)
  have K0 := (al.block _ (Array.getElem?_eq_some_iff.1 HQ.out.2.1).1).trans HQ.out.2.1
  have K1 := (al.block _ (Array.getElem?_eq_some_iff.1 HQ.out.2.2.1).1).trans HQ.out.2.2.1
  have HE := Lib.hid (eqT_any (cap := uc) (dap := vc) 58 #[.pointer (some ⟨X.heap.size, 0, none⟩)] enter_same2 (HL.out.1.on al fun _ _ h => h.below al) (HL.out.2.on al fun _ _ h => h.below al) fun t ht x u v hx h1 h2 => sameType_any h1 h2 (HZ.out t ht) ((hx.block _ (Array.getElem?_eq_some_iff.1 hk).1).trans hk))
  have H1 := Lib.hid (HQ.out.1.trans (al.mono HQ.out.1.size))
  have b0 := Gr.box1 K0
  have b1 := Gr.box1 K1
  clear al hk K0 K1 HQ HL HZ
  have hst : ∀ (a : Addr) (w : World), (store a (.func (.func 55) #[] #[])).run Tryz.prog w = stored Tryz.prog w a (.func (.func 55) #[] #[]) .plain := fun a w => run_store Tryz.prog w a _ .plain rfl
  go_upto_region 2 with fail
  generalize X.alloc (.cells #[.func (.func 55) #[] #[]] 117) = Y at *
  generalize X.heap.size = Rb at *
  go_wp2_with fail
  refine HE.out.mono ?_
  rintro e y ⟨rfl, hy⟩
  have HB := Lib.hid (H1.out.trans (hy.mono H1.out.size))
  clear hy HE H1 b0 b1
  go_wp2_with fail
  go_ret
  exact ⟨rfl, HB.out⟩
end Ck
end Go.Proofs.YticcldohgbpcbaaGreatDoor
