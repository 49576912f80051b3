/-
  Layer 9's document: Rel: a relation of a type of that name.
  Layer 9's document: rows of texts and of items in memory; Types: those that a relation allows, each once.
  Layer 9's document: allowed: whether what a relation allows is there.
  Layer 9's document: ref: what is wrong with a reference.
-/
import Derived.Test.YtopncohhagebbaaGreatDoorLgA
import Derived.Test.YtopncohhagebbaaGreatDoorCnDef
import Derived.Deep.DeepCutAuto
import Derived.Test.YtopncohhagebbaaGreatDoorMgMem
import Derived.Deep.Onto
import Derived.BigQuiet
namespace Go.Proofs.YtopncohhagebbaaGreatDoor
open Go.RowKit
namespace Lt
open Tr (Nd IsNode node4 none0 size)
open Gr (Al Rl Ty IsAl IsRl IsTy IsCf Lies ty_at rl_at al_at alV relV tyV tAl tRl tTy tCf box1 box2 box6 two_boxes)
open Cn (box3)

abbrev two (a b : Value) : Value := .tuple #[a, b]
def set6 (x : World) (R : Nat) (a0 a1 a2 a3 a4 a5 : Value) : World := (((((x.setCell ⟨R, 0, none⟩ a0).setCell ⟨R, 1, none⟩ a1).setCell ⟨R, 2, none⟩ a2).setCell ⟨R, 3, none⟩ a3).setCell ⟨R, 4, none⟩ a4).setCell ⟨R, 5, none⟩ a5
theorem set6_turns (x : World) (R : Nat) (a0 a1 a2 a3 a4 a5 : Value) : Knot.Turns (fun g => g = R) x (set6 x R a0 a1 a2 a3 a4 a5) :=
  (((((Knot.Turns.refl (fun g => g = R) x).setCell (p := ⟨R, 0, none⟩) rfl _).setCell (p := ⟨R, 1, none⟩) rfl _).setCell (p := ⟨R, 2, none⟩) rfl _).setCell (p := ⟨R, 3, none⟩) rfl _).setCell (p := ⟨R, 4, none⟩) rfl _ |>.setCell (p := ⟨R, 5, none⟩) rfl _
theorem set6_heap {x : World} {R : Nat} {T : TypeId} {b0 b1 b2 b3 b4 b5 : Value} (h : x.heap[R]? = some (.cells #[b0, b1, b2, b3, b4, b5] T (0, 0))) (a0 a1 a2 a3 a4 a5 : Value) :
    (set6 x R a0 a1 a2 a3 a4 a5).heap[R]? = some (.cells #[a0, a1, a2, a3, a4, a5] T (0, 0)) :=
  Lib.heap_setCell_same (i := 5) (Lib.heap_setCell_same (i := 4) (Lib.heap_setCell_same (i := 3) (Lib.heap_setCell_same (i := 2) (Lib.heap_setCell_same (i := 1) (Lib.heap_setCell_same (i := 0) h _) _) _) _) _) _
theorem free6 {x : World} {R : Nat} {T : TypeId} {b0 b1 b2 b3 b4 b5 : Value} (h : x.heap[R]? = some (.cells #[b0, b1, b2, b3, b4, b5] T (0, 0))) :
    x.frozen? ⟨R, 0, none⟩ = false ∧ x.frozen? ⟨R, 1, none⟩ = false ∧ x.frozen? ⟨R, 2, none⟩ = false ∧ x.frozen? ⟨R, 3, none⟩ = false ∧ x.frozen? ⟨R, 4, none⟩ = false ∧ x.frozen? ⟨R, 5, none⟩ = false :=
  ⟨Lib.frozen_of_heap h 0, Lib.frozen_of_heap h 1, Lib.frozen_of_heap h 2, Lib.frozen_of_heap h 3, Lib.frozen_of_heap h 4, Lib.frozen_of_heap h 5⟩

theorem relT_hit {t : Ty} {ty rl : ByteArray} {k : Nat} (hk : k < t.rels.length) (h : relT ⟨t.name, t.rels.take k⟩ ty rl = none) (hs : same t.name ty = true) :
    (same t.rels[k].name rl = true → relT t ty rl = some t.rels[k]) ∧ (same t.rels[k].name rl = false → relT ⟨t.name, t.rels.take (k + 1)⟩ ty rl = none) := by
  rw [relT, if_pos hs] at h
  simp only at h
  constructor
  · intro hr
    rw [relT, if_pos hs]
    have e : t.rels.find? (fun x => same x.name rl) = (t.rels.take k ++ (t.rels[k] :: t.rels.drop (k + 1))).find? (fun x => same x.name rl) := by rw [← List.drop_eq_getElem_cons hk, List.take_append_drop]
    rw [e, List.find?_append, h, List.find?_cons, hr]
    rfl
  · intro hr
    rw [relT, if_pos hs]
    simp only
    rw [List.take_succ_eq_append_getElem hk, List.find?_append, h, List.find?_cons, hr]
    rfl
theorem relT_other {t : Ty} {ty rl : ByteArray} (l : List Rl) (hs : same t.name ty = false) : relT ⟨t.name, l⟩ ty rl = none := by rw [relT, if_neg (by rw [hs]; decide)]
theorem relC_hit {l : List Ty} {ty rl : ByteArray} {j : Nat} (hj : j < l.length) (h : relC (l.take j) ty rl = none) :
    (∀ r, relT l[j] ty rl = some r → relC l ty rl = some r) ∧ (relT l[j] ty rl = none → relC (l.take (j + 1)) ty rl = none) := by
  constructor
  · intro r hr
    have e : relC l ty rl = relC (l.take j ++ (l[j] :: l.drop (j + 1))) ty rl := by rw [← List.drop_eq_getElem_cons hj, List.take_append_drop]
    rw [e, relC_append, h, relC, hr]
    rfl
  · intro hr
    rw [List.take_succ_eq_append_getElem hj, relC_append, h, relC, hr]
    rfl

set_option maxHeartbeats 8000000 in
set_option maxRecDepth 100000 in
theorem rrelb_any (l : List Ty) (v : Value) (w0 w : World) (h : IsCf w0 l v) (hb0 : Below w0.heap.size w0 w) (ty rl : ByteArray) :
    Calls Tryz.prog 20 #[v, .string ty, .string rl] w fun e x => ∃ u, e = .returned (two u (.bool (relC l ty rl).isSome)) ∧ IsRl w0 ((relC l ty rl).getD zR) u ∧ Below w.heap.size w x := by
  obtain ⟨ao, cap, us, rfl, hl⟩ := h
  obtain ⟨q1, q2, q3, q4⟩ := two_boxes w #[.slice ao l.length cap] #[.string ⟨#[]⟩, .slice none 0 0, .int .i64 0, .string ⟨#[]⟩, .string ⟨#[]⟩, .slice none 0 0] tCf tRl
  have hbig : l.length ≤ 9223372036854775807 := hl.big
  have HL := Lib.hid hl
  have H0 := Lib.hid (And.intro q1 (And.intro q2 q3))
  have HW0 := Lib.hid (hb0.trans (q1.mono hb0.size))
  clear hl q1 q2 q3 q4 hb0
  go_enter Tryz.func20, Tryz.ntmps20
  go_upto_region 1 with fail
  generalize (w.alloc (.cells #[.slice ao l.length cap] tCf)).alloc (.cells #[.string ⟨#[]⟩, .slice none 0 0, .int .i64 0, .string ⟨#[]⟩, .string ⟨#[]⟩, .slice none 0 0] tRl) = X at *
  have b0 := box1 H0.out.2.1
  go_wp2_with fail
  go_loopw [13] (fun i wr => ∃ j : Nat, j ≤ l.length ∧ i = .int .i64 j ∧ Hid (relC (l.take j) ty rl = none) ∧ wr = X) (fun i _ => l.length - (intOf i).toNat)
  case atStart => exact ⟨0, by omega, rfl, Lib.hid rfl, rfl⟩
  case round =>
    obtain ⟨j, hj, rfl, hall, rfl⟩ := hrel
    by_cases hlt : j < l.length
    · obtain ⟨g, q, ro, rc, vs, hix, hg, c0', c1', hla⟩ := ty_at HL.out cap hlt
      have c0 := (HW0.out.cell (p := ⟨g, q, none⟩) hg).trans c0'
      have c1 := (HW0.out.cell (p := ⟨g, q + 1, none⟩) hg).trans c1'
      have hhit := relC_hit hlt hall.out
      generalize l[j] = t at *
      have HLT := Lib.hid hla
      have hbig2 : t.rels.length ≤ 9223372036854775807 := hla.big
      have HC := Lib.hid hhit
      clear hla hall c0' c1' hhit hg
      go_wp2_with fail
      go_loopw [23] (fun i wr' => ∃ k : Nat, k ≤ t.rels.length ∧ i = .int .i64 k ∧ Hid (relT ⟨t.name, t.rels.take k⟩ ty rl = none) ∧ wr' = wr) (fun i _ => t.rels.length - (intOf i).toNat)
      case atStart => exact ⟨0, by omega, rfl, Lib.hid (by rw [relT]; split <;> rfl), rfl⟩
      case round =>
        obtain ⟨k, hk, rfl, hall, rfl⟩ := hrel
        by_cases hkt : k < t.rels.length
        · cases hs : same t.name ty with
          | false =>
            have e1 : (t.name.toList == ty.toList) = false := hs
            have HE := Lib.hid (relT_other (rl := rl) (t.rels.take (k + 1)) hs)
            clear hs
            go_wp2_with fail
            go_roundw
            case rel => exact ⟨k + 1, by omega, by go_num, HE, trivial⟩
            case measure => simp [intOf]; omega
          | true =>
            have e1 : (t.name.toList == ty.toList) = true := hs
            obtain ⟨g2, q2, so, sc, no, nc, ss, hix2, hg2, d0', d1', d2', d3', d4', d5', hla2, hnd⟩ := rl_at HLT.out rc hkt
            have d0 := (HW0.out.cell (p := ⟨g2, q2, none⟩) hg2).trans d0'
            have d1 := (HW0.out.cell (p := ⟨g2, q2 + 1, none⟩) hg2).trans d1'
            have d2 := (HW0.out.cell (p := ⟨g2, q2 + 2, none⟩) hg2).trans d2'
            have d3 := (HW0.out.cell (p := ⟨g2, q2 + 3, none⟩) hg2).trans d3'
            have d4 := (HW0.out.cell (p := ⟨g2, q2 + 4, none⟩) hg2).trans d4'
            have d5 := (HW0.out.cell (p := ⟨g2, q2 + 5, none⟩) hg2).trans d5'
            have hhit := relT_hit hkt hall.out hs
            generalize t.rels[k] = r at *
            have HR := Lib.hid (And.intro hla2 hnd)
            have HH := Lib.hid hhit
            clear hs d0' d1' d2' d3' d4' d5' hla2 hnd hhit hall hg2
            cases hn : same r.name rl with
            | false =>
              have e2 : (r.name.toList == rl.toList) = false := hn
              have HE := Lib.hid (HH.out.2 hn)
              clear hn d1 d2 d3 d4 d5
              go_wp2_with fail
              go_roundw
              case rel => exact ⟨k + 1, by omega, by go_num, HE, trivial⟩
              case measure => simp [intOf]; omega
            | true =>
              have e2 : (r.name.toList == rl.toList) = true := hn
              have HE := Lib.hid (HC.out.1 r (HH.out.1 hn))
              obtain ⟨k0, k1, k2, k3, k4, k5⟩ := box6 H0.out.2.2
              obtain ⟨f0, f1, f2, f3, f4, f5⟩ := free6 H0.out.2.2
              have hfin := set6_heap H0.out.2.2 (.string r.name) (.slice so r.allow.length sc) (.int .i64 r.expr.kind) (.string r.expr.ta) (.string r.expr.tb) (.slice no r.expr.kids.length nc)
              have htu := (set6_turns wr (w.heap.size + 1) (.string r.name) (.slice so r.allow.length sc) (.int .i64 r.expr.kind) (.string r.expr.ta) (.string r.expr.tb) (.slice no r.expr.kids.length nc)).below (B := w.heap.size) H0.out.1.size (fun k hk => by omega)
              have HF := Lib.hid (And.intro hfin (H0.out.1.trans htu))
              clear hn hfin htu
              go_wp2_with fail
              change bodyPost _ _ _ _ _ (set6 wr (w.heap.size + 1) (.string r.name) (.slice so r.allow.length sc) (.int .i64 r.expr.kind) (.string r.expr.ta) (.string r.expr.tb) (.slice no r.expr.kids.length nc))
              generalize set6 wr (w.heap.size + 1) (.string r.name) (.slice so r.allow.length sc) (.int .i64 r.expr.kind) (.string r.expr.ta) (.string r.expr.tb) (.slice no r.expr.kids.length nc) = F at *
              obtain ⟨g0, g1, g2, g3, g4, g5⟩ := box6 HF.out.1
              refine bodyPost_ret (v := two (relV r (.slice so r.allow.length sc) (.slice no r.expr.kids.length nc)) (.bool true)) (by simp [results, Tryz.results20, go_sem, g0, g1, g2, g3, g4, g5]) rfl ⟨_, by rw [HE.out]; rfl, ?_, HF.out.2⟩
              rw [HE.out]
              exact ⟨so, sc, no, nc, ss, rfl, HR.out.1, HR.out.2⟩
        · have hk' : k = t.rels.length := by omega
          subst hk'
          have ha := hall.out
          rw [List.take_length] at ha
          have HE := Lib.hid (HC.out.2 ha)
          clear ha hall
          go_wp2_with fail
          go_roundw
          case rel => exact ⟨j + 1, by omega, by go_num, HE, trivial⟩
          case measure => simp [intOf]; omega
    · have hj' : j = l.length := by omega
      subst hj'
      have ha := hall.out
      rw [List.take_length] at ha
      have HE := Lib.hid ha
      obtain ⟨k0, k1, k2, k3, k4, k5⟩ := box6 H0.out.2.2
      obtain ⟨f0, f1, f2, f3, f4, f5⟩ := free6 H0.out.2.2
      have hfin := set6_heap H0.out.2.2 (.string ⟨#[]⟩) (.slice none 0 0) (.int .i64 0) (.string ⟨#[]⟩) (.string ⟨#[]⟩) (.slice none 0 0)
      have htu := (set6_turns wr (w.heap.size + 1) (.string ⟨#[]⟩) (.slice none 0 0) (.int .i64 0) (.string ⟨#[]⟩) (.string ⟨#[]⟩) (.slice none 0 0)).below (B := w.heap.size) H0.out.1.size (fun k hk => by omega)
      have HF := Lib.hid (And.intro hfin (H0.out.1.trans htu))
      clear ha hall hfin htu
      go_wp2_with fail
      change bodyPost _ _ _ _ _ (set6 wr (w.heap.size + 1) (.string ⟨#[]⟩) (.slice none 0 0) (.int .i64 0) (.string ⟨#[]⟩) (.string ⟨#[]⟩) (.slice none 0 0))
      generalize set6 wr (w.heap.size + 1) (.string ⟨#[]⟩) (.slice none 0 0) (.int .i64 0) (.string ⟨#[]⟩) (.string ⟨#[]⟩) (.slice none 0 0) = F at *
      obtain ⟨g0, g1, g2, g3, g4, g5⟩ := box6 HF.out.1
      refine bodyPost_ret (v := two (relV zR (.slice none 0 0) (.slice none 0 0)) (.bool false)) (by simp [results, Tryz.results20, go_sem, g0, g1, g2, g3, g4, g5, zR, none0, Nd.kind, Nd.ta, Nd.tb]) rfl ⟨_, by rw [HE.out]; rfl, ?_, HF.out.2⟩
      rw [HE.out]
      refine ⟨none, 0, none, 0, [], rfl, ⟨rfl, Nat.zero_le _, fun h => absurd rfl h, fun i a u h => by simp [zR] at h⟩, ?_⟩
      show IsNode _ (.mk 0 none0 none0 []) _
      rw [IsNode]
      refine ⟨none, 0, [], rfl, ⟨by decide, by decide⟩, fun h => absurd rfl h, ?_⟩
      rw [Tr.IsNodes]
theorem rrelw_any (l : List Ty) (v : Value) (w : World) (h : IsCf w l v) (ty rl : ByteArray) :
    Calls Tryz.prog 20 #[v, .string ty, .string rl] w fun e x => ∃ u, e = .returned (two u (.bool (relC l ty rl).isSome)) ∧ IsRl w ((relC l ty rl).getD zR) u ∧ Below w.heap.size w x := rrelb_any l v w w h (Below.refl _ _) ty rl
theorem rrel_any (l : List Ty) (v : Value) (w : World) (h : IsCf w l v) (ty rl : ByteArray) :
    Calls Tryz.prog 20 #[v, .string ty, .string rl] w fun e x => ∃ u, e = .returned (two u (.bool (relC l ty rl).isSome)) ∧ IsRl x ((relC l ty rl).getD zR) u ∧ Below w.heap.size w x :=
  (rrelw_any l v w h ty rl).mono fun _ _ ⟨u, h1, h2, h3⟩ => ⟨u, h1, h2.below h3, h3⟩
end Lt
end Go.Proofs.YtopncohhagebbaaGreatDoor

namespace Go.Proofs.YtopncohhagebbaaGreatDoor
open Go.RowKit
namespace Lt
open Tr (Nd IsNode node4 none0 size own_open own_slice own_below own_turn IsElem walk_rows)
open Gr (Al Rl Ty IsAl IsRl IsTy IsCf Lies ty_at rl_at al_at alV relV tyV tAl tRl tTy tCf box1 box2 box6 two_boxes new_cells)
open Cn (box3)
open Knot (Turns NewRow)

theorem elemS : Tryz.prog.underlying 37 = some (.slice (Tryz.prog.elem 37)) := by kernel_rfl
theorem sizeS : ∀ w, (sizeOf (Tryz.prog.elem 37)).run Tryz.prog w = .ok 1 w := fun w => by kernel_rfl
set_option maxRecDepth 100000 in
theorem strs_elem : ∃ i z b, IsElem Tryz.prog 37 9 i z 1 b ∧ b ≤ 100 := by
  refine ⟨_, _, _, ⟨by kernel_rfl, rfl, rfl, by kernel_rfl, rfl, by kernel_rfl, by omega⟩, ?_⟩
  exact of_decide_eq_true (by kernel_rfl)
def StrRow (B : Nat) (x : World) (v : Value) (l : List ByteArray) : Prop := x.ownsRow B 9 1 v l.length (l.map Value.string)
theorem StrRow.below {B : Nat} {x y : World} {v : Value} {l : List ByteArray} (h : StrRow B x v l) (hb : Below x.heap.size x y) : StrRow B y v l := own_below h hb
theorem str_at {B : Nat} {x : World} {v : Value} {l : List ByteArray} (h : StrRow B x v l) {j : Nat} (hj : j < l.length) :
    ∃ g q, (∀ W, (Instr.indexAt 37 v (.int .i64 (j : Int))).run Tryz.prog W = .ok (.pointer (some ⟨g, q, none⟩)) W) ∧ B ≤ g ∧ g < x.heap.size ∧ x.cell? ⟨g, q, none⟩ = some (.string l[j]) := by
  obtain ⟨n, hn⟩ : ∃ n, l.length = n + 1 := ⟨l.length - 1, by omega⟩
  have h' : x.ownsRow B 9 1 v l.length (l.map Value.string) := h
  rw [hn] at h'
  obtain ⟨g, rc, rfl, hB, hg, -, hc⟩ := own_open h'
  refine ⟨g, j, fun W => ?_, hB, hg, hc _ _ (by rw [List.getElem?_map, List.getElem?_eq_getElem hj]; rfl)⟩
  rw [run_indexAt_slice W _ _ _ _ _ _ elemS, if_pos ⟨by omega, by omega⟩, sizeS]
  have e : ((j : Int)).toNat = j := by omega
  simp only [Result.andThen_ok, e, Addr.add_lit, Nat.zero_add, Nat.mul_one]
theorem typesP_take {l : List Al} {j : Nat} (h : j < l.length) : typesP (l.take (j + 1)) = addT (typesP (l.take j)) l[j] := by
  rw [typesP, List.take_succ_eq_append_getElem h, List.foldl_append]
  rfl
theorem fold_len : ∀ (l : List Al) (out : List ByteArray), (l.foldl addT out).length ≤ out.length + l.length
  | [], out => Nat.le_refl _
  | a :: l, out => by
    rw [List.foldl_cons, List.length_cons]
    have h1 := fold_len l (addT out a)
    have h2 : (addT out a).length ≤ out.length + 1 := by
      unfold addT
      split
      · omega
      · rw [List.length_append, List.length_singleton]; omega
    omega
theorem typesP_len (l : List Al) : (typesP l).length ≤ l.length := by
  have := fold_len l []
  rw [List.length_nil, Nat.zero_add] at this
  exact this
theorem any_take {α : Type} {p : α → Bool} {l : List α} {k : Nat} (h : k < l.length) : (l.take (k + 1)).any p = ((l.take k).any p || p l[k]) := by
  rw [List.take_succ_eq_append_getElem h, List.any_append, List.any_cons, List.any_nil, Bool.or_false]

set_option maxHeartbeats 8000000 in
set_option maxRecDepth 100000 in
theorem rtypes_any (r : Rl) (v : Value) (w : World) (h : IsRl w r v) (hn : r.allow.length ≤ 100000) :
    Calls Tryz.prog 38 #[v] w fun e x => ∃ u, e = .returned u ∧ StrRow w.heap.size x u (typesP r.allow) ∧ Below w.heap.size w x := by
  obtain ⟨ao, cap, no, nc, us, rfl, hl, hnd⟩ := h
  have h0 := heap_alloc_new w (.cells #[.string r.name, .slice ao r.allow.length cap, .int .i64 r.expr.kind, .string r.expr.ta, .string r.expr.tb, .slice no r.expr.kids.length nc] tRl)
  have al := Tr.fresh_one w (.cells #[.string r.name, .slice ao r.allow.length cap, .int .i64 r.expr.kind, .string r.expr.ta, .string r.expr.tb, .slice no r.expr.kids.length nc] tRl)
  have hs0 : (w.alloc (.cells #[.string r.name, .slice ao r.allow.length cap, .int .i64 r.expr.kind, .string r.expr.ta, .string r.expr.tb, .slice no r.expr.kids.length nc] tRl)).heap.size = w.heap.size + 1 := by simp
  have HL := Lib.hid hl
  have H0 := Lib.hid (And.intro al (And.intro h0 hs0))
  clear hl hnd h0 al hs0
  go_enter Tryz.func38, Tryz.ntmps38
  go_upto_region 2 with fail
  generalize w.alloc (.cells #[.string r.name, .slice ao r.allow.length cap, .int .i64 r.expr.kind, .string r.expr.ta, .string r.expr.tb, .slice no r.expr.kids.length nc] tRl) = X at *
  have b1 := (box6 H0.out.2.1).2.1
  go_wp2_with fail
  clear b1
  go_loopw [3, 10] (fun ov i wr => ∃ j : Nat, j ≤ r.allow.length ∧ i = .int .i64 j ∧ Hid (wr.ownsRow (w.heap.size + 1) 9 1 ov (typesP (r.allow.take j)).length ((typesP (r.allow.take j)).map Value.string) ∧ Below (w.heap.size + 1) X wr)) (fun _ i _ => r.allow.length - (intOf i).toNat)
  case atStart => exact ⟨0, by omega, rfl, Lib.hid ⟨World.ownsRow_nil _ _ _ _, Below.refl _ _⟩⟩
  case round =>
    obtain ⟨j, hj, rfl, HJ⟩ := hrel
    obtain ⟨oo, oc, rfl⟩ := own_slice HJ.out.1
    have hbw : Below w.heap.size w wr := H0.out.1.trans (HJ.out.2.mono (by omega))
    have hbox := (HJ.out.2.block w.heap.size (by omega)).trans H0.out.2.1
    have hszr : w.heap.size + 1 ≤ wr.heap.size := by have := HJ.out.2.size; have := H0.out.2.2; omega
    have b1 := (box6 hbox).2.1
    by_cases hlt : j < r.allow.length
    · obtain ⟨g, q, hix, hg, c0', c1', c2'⟩ := al_at HL.out cap hlt
      have c0 := (hbw.cell (p := ⟨g, q, none⟩) hg).trans c0'
      have htk := typesP_take hlt
      have hlen := typesP_len (r.allow.take j)
      have hlen2 : (typesP (r.allow.take j)).length ≤ 100000 := by rw [List.length_take] at hlen; omega
      generalize r.allow[j] = a at *
      have HT := Lib.hid htk
      have HB := Lib.hid (And.intro hbw (And.intro hbox hszr))
      clear c0' c1' c2' htk hlen hbw hbox
      generalize typesP (r.allow.take j) = out at *
      have hbw0 : w.heap.size ≤ wr.heap.size ∧ g < w.heap.size := ⟨by omega, hg⟩
      go_wp2_with fail
      clear b1
      have HC0 := Lib.hid (And.intro c0 (show g < wr.heap.size by have := hbw0; omega))
      clear c0
      go_loopw [5, 15] (fun th i wr' => ∃ k : Nat, k ≤ out.length ∧ i = .int .i64 k ∧ th = .bool ((out.take k).any fun x => same x a.ty) ∧ Below wr.heap.size wr wr') (fun _ i _ => out.length - (intOf i).toNat)
      case atStart => exact ⟨0, by omega, rfl, rfl, Below.refl _ _⟩
      case round =>
        obtain ⟨k, hk, rfl, rfl, hb2⟩ := hrel
        have b1 := (box6 ((hb2.block w.heap.size (by omega)).trans HB.out.2.1)).2.1
        have c0 := (hb2.cell (p := ⟨g, q, none⟩) HC0.out.2).trans HC0.out.1
        have hrow2 := own_below HJ.out.1 hb2
        by_cases hkt : k < out.length
        · obtain ⟨g2, q2, hix2, -, -, d0⟩ := str_at hrow2 hkt
          have hat := any_take (p := fun x => same x a.ty) hkt
          generalize out[k] = u at *
          cases hth : (out.take k).any fun x => same x a.ty with
          | true =>
            rw [hth, Bool.true_or] at hat
            have HA := Lib.hid hat
            have HB2 := Lib.hid hb2
            clear hat hth hb2 hrow2
            go_wp2_with fail
            go_quiet (fail)
            go_wp2_with fail
            go_roundw
            case rel => exact ⟨k + 1, by omega, by go_num, by rw [HA.out], below_drewN HB2.out _⟩
            case measure => simp [intOf]; omega
          | false =>
            rw [hth, Bool.false_or] at hat
            have HA := Lib.hid hat
            have HB2 := Lib.hid hb2
            clear hat hth hb2 hrow2
            go_wp2_with fail
            go_quiet (fail)
            go_wp2_with fail
            go_roundw
            case rel => exact ⟨k + 1, by omega, by go_num, by rw [HA.out]; rfl, below_drewN HB2.out _⟩
            case measure => simp [intOf]; omega
        · have hk' : k = out.length := by omega
          subst hk'
          rw [List.take_length]
          cases hth : out.any fun x => same x a.ty with
          | true =>
            have he : addT out a = out := by rw [addT, if_pos hth]
            have HE := Lib.hid he
            have HR3 := Lib.hid (And.intro hrow2 (HJ.out.2.trans (hb2.mono HB.out.2.2)))
            clear hth he hrow2 hb2
            go_wp2_with fail
            go_roundw
            case rel => exact ⟨j + 1, by omega, by go_num, Lib.hid ⟨by rw [HT.out, HE.out]; exact HR3.out.1, HR3.out.2⟩⟩
            case measure => simp [intOf]; omega
          | false =>
            have he : addT out a = out ++ [a.ty] := by rw [addT, if_neg (by rw [hth]; decide)]
            have HE := Lib.hid he
            have al := hb2.trans ((Tr.fresh_one wr (.cells #[.string a.ty] 9)).mono hb2.size)
            have HJ2 := Lib.hid (And.intro (own_below HJ.out.1 al) (HJ.out.2.trans (al.mono hszr)))
            obtain ⟨ti, tz, tb, TE, hT⟩ := strs_elem
            have HTE := Lib.hid (And.intro TE hT)
            have HZ := Lib.hid (show w.heap.size + 1 ≤ (wr.alloc (.cells #[.string a.ty] 9)).heap.size by have := al.size; omega)
            clear hth he al TE hT hrow2 hb2
            go_wp2_with (at_builtin; refine walk_rows HTE.out.1 rfl _ _ rfl rfl rfl HJ2.out.1 HZ.out (m := 1) rfl (new_cells _ _ [.string a.ty] (by simp)) (by intro u' hu'; simp at hu'; subst hu'; rfl) (by omega) (Nat.le_trans (Nat.mul_le_mul_left _ HTE.out.2) (by omega)) ?_)
            intro v2 z2 r2 gr2 n2
            have HR2 := Lib.hid (And.intro r2 (HJ2.out.2.grown gr2 HZ.out fun k hk => (HJ2.out.1.lt k hk).1))
            clear r2 gr2 n2
            go_wp2_with fail
            go_roundw
            case rel => exact ⟨j + 1, by omega, by go_num, Lib.hid ⟨by rw [HT.out, HE.out, List.length_append, List.map_append]; exact HR2.out.1, HR2.out.2⟩⟩
            case measure => simp [intOf]; omega
    · have hj' : j = r.allow.length := by omega
      subst hj'
      have hr := HJ.out.1
      rw [List.take_length] at hr
      have HR := Lib.hid (And.intro hr hbw)
      clear hr hbw HJ
      go_wp2_with fail
      go_ret
      refine ⟨_, rfl, ?_, HR.out.2⟩
      have := HR.out.1
      rw [List.take_length]
      exact World.ownsRow.mono this (by omega)
end Lt
end Go.Proofs.YtopncohhagebbaaGreatDoor

namespace Go.Proofs.YtopncohhagebbaaGreatDoor
open Go.RowKit
namespace Lt
open Tr (Nd IsNode node4 none0 size own_open own_slice own_below IsElem walk_rows)
open Gr (Al Rl Ty IsAl IsRl IsTy IsCf Lies ty_at rl_at al_at alV relV tyV tAl tRl tTy tCf box1 box2 box6 two_boxes)
open Cn (box3)

theorem any_false_take {α : Type} {p : α → Bool} {l : List α} {k : Nat} (h : k < l.length) (hk : (l.take k).any p = false) : (p l[k] = true → l.any p = true) ∧ (p l[k] = false → (l.take (k + 1)).any p = false) :=
  ⟨fun e => List.any_eq_true.2 ⟨l[k], List.getElem_mem h, e⟩, fun e => by rw [any_take h, hk, e]; rfl⟩

set_option maxHeartbeats 8000000 in
set_option maxRecDepth 100000 in
theorem rallowed_any (l : List Ty) (r : Rl) (v u : Value) (w : World) (h : IsCf w l v) (hr : IsRl w r u) :
    Calls Tryz.prog 150 #[v, u] w fun e x => e = .returned (.int .i64 (allowedP l r)) ∧ Below w.heap.size w x := by
  have HC := Lib.hid h
  obtain ⟨ao, cap, us, rfl, hl⟩ := h
  obtain ⟨ro, rc, no, nc, ss, rfl, hra, -⟩ := hr
  obtain ⟨q1, q2, q3, q4⟩ := two_boxes w #[.slice ao l.length cap] #[.string r.name, .slice ro r.allow.length rc, .int .i64 r.expr.kind, .string r.expr.ta, .string r.expr.tb, .slice no r.expr.kids.length nc] tCf tRl
  have HL := Lib.hid (And.intro hl hra)
  have H0 := Lib.hid (And.intro q1 (And.intro q2 (And.intro q3 q4)))
  have hbig : r.allow.length ≤ 9223372036854775807 := hra.big
  have hbig2 : l.length ≤ 9223372036854775807 := hl.big
  clear hl hra q1 q2 q3 q4
  go_enter Tryz.func150, Tryz.ntmps150
  go_upto_region 1 with fail
  generalize (w.alloc (.cells #[.slice ao l.length cap] tCf)).alloc (.cells #[.string r.name, .slice ro r.allow.length rc, .int .i64 r.expr.kind, .string r.expr.ta, .string r.expr.tb, .slice no r.expr.kids.length nc] tRl) = X at *
  have b1 := (box6 H0.out.2.2.1).2.1
  go_wp2_with fail
  clear b1
  go_loopw [14] (fun i wr => ∃ j : Nat, j ≤ r.allow.length ∧ i = .int .i64 j ∧ Hid ((r.allow.take j).any (lost l) = false) ∧ Below X.heap.size X wr) (fun i _ => r.allow.length - (intOf i).toNat)
  case atStart => exact ⟨0, by omega, rfl, Lib.hid rfl, Below.refl _ _⟩
  case round =>
    obtain ⟨j, hj, rfl, hall, hb⟩ := hrel
    by_cases hlt : j < r.allow.length
    · have hbw := H0.out.1.trans (hb.mono H0.out.1.size)
      have b0 := box1 ((hb.block _ (by have := H0.out.2.2.2; omega)).trans H0.out.2.1)
      have b1 := (box6 ((hb.block _ (by have := H0.out.2.2.2; omega)).trans H0.out.2.2.1)).2.1
      obtain ⟨g, q, hix, hg, c0', c1', c2'⟩ := al_at HL.out.2 rc hlt
      have c0 := (hbw.cell (p := ⟨g, q, none⟩) hg).trans c0'
      have c1 := (hbw.cell (p := ⟨g, q + 1, none⟩) hg).trans c1'
      have c2 := (hbw.cell (p := ⟨g, q + 2, none⟩) hg).trans c2'
      have hat := any_false_take hlt hall.out
      generalize r.allow[j] = a at *
      have al1 := Tr.fresh_one wr (.cells #[.string a.ty, .string a.rel, .bool a.wild] tAl)
      have hk1 := heap_alloc_new wr (.cells #[.string a.ty, .string a.rel, .bool a.wild] tAl)
      have H1 := Lib.hid (And.intro (hb.trans (al1.mono hb.size)) hk1)
      have HNO := Lib.hid (fun h => show allowedP l r = 13 by rw [allowedP, hat.1 h]; rfl)
      have HYES := Lib.hid hat.2
      clear hg c0' c1' c2' hat al1 hk1 hall hb hbw b0
      go_upto_region 5 with fail
      generalize wr.alloc (.cells #[.string a.ty, .string a.rel, .bool a.wild] tAl) = Y at *
      generalize wr.heap.size = R1 at *
      clear b1 c0 c1 c2 hix
      have b0 := box1 ((H1.out.1.block _ (by have := H0.out.2.2.2; omega)).trans H0.out.2.1)
      go_wp2_with fail
      clear b0
      go_loopw [7, 25] (fun th i wr => ∃ k : Nat, k ≤ l.length ∧ i = .int .i64 k ∧ th = .bool ((l.take k).any fun t => same t.name a.ty) ∧ Below Y.heap.size Y wr) (fun _ i _ => l.length - (intOf i).toNat)
      case atStart => exact ⟨0, by omega, rfl, rfl, Below.refl _ _⟩
      case round =>
        obtain ⟨k, hk, rfl, rfl, hb⟩ := hrel
        have hbx := H1.out.1.trans (hb.mono H1.out.1.size)
        have hbw := H0.out.1.trans (hbx.mono H0.out.1.size)
        have hk0 := (hbx.block _ (by have := H0.out.2.2.2; omega)).trans H0.out.2.1
        have hk1 := (hb.block _ (Array.getElem?_eq_some_iff.1 H1.out.2).1).trans H1.out.2
        have b0 := box1 hk0
        by_cases hkt : k < l.length
        · obtain ⟨g, q, so, sc, vs, hix, hg, c0', -, -⟩ := ty_at HL.out.1 cap hkt
          have c0 := (hbw.cell (p := ⟨g, q, none⟩) hg).trans c0'
          have hat := any_take (p := fun t => same t.name a.ty) hkt
          generalize l[k] = t at *
          have HB := Lib.hid hb
          cases hth : (l.take k).any fun t => same t.name a.ty with
          | true =>
            rw [hth, Bool.true_or] at hat
            have HA := Lib.hid hat
            clear hat hth hg c0' hb hbx hbw hk0 hk1
            go_wp2_with fail
            go_quiet (fail)
            go_wp2_with fail
            go_roundw
            case rel => exact ⟨k + 1, by omega, by go_num, by rw [HA.out], below_drewN HB.out _⟩
            case measure => simp [intOf]; omega
          | false =>
            rw [hth, Bool.false_or] at hat
            have HA := Lib.hid hat
            obtain ⟨d0, d1, d2⟩ := box3 hk1
            clear hat hth hg c0' hb hbx hbw hk0 hk1 d1 d2
            go_wp2_with fail
            go_quiet (fail)
            go_wp2_with fail
            go_roundw
            case rel => exact ⟨k + 1, by omega, by go_num, by rw [HA.out]; rfl, below_drewN HB.out _⟩
            case measure => simp [intOf]; omega
        · have hk' : k = l.length := by omega
          subst hk'
          rw [List.take_length]
          have HR := Lib.hid (rrel_any l _ wr (HC.out.below hbw) a.ty a.rel)
          have H2 := Lib.hid (And.intro hbx (And.intro hbw hk1))
          obtain ⟨d0, d1, d2⟩ := box3 hk1
          have HTH := Lib.hid (show ∀ x, same x a.ty = same x a.ty from fun _ => rfl)
          clear hb hbx hbw hk0 hk1
          generalize hth : (l.any fun t => same t.name a.ty) = th at *
          go_wp2_with fail
          refine HR.out.mono ?_
          rintro e x ⟨u, rfl, ⟨o2, s2, o3, s3, us2, rfl, -, -⟩, hx⟩
          have al2 := hx.trans ((Tr.fresh_one x (.cells #[.string ((relC l a.ty a.rel).getD zR).name, .slice o2 ((relC l a.ty a.rel).getD zR).allow.length s2, .int .i64 ((relC l a.ty a.rel).getD zR).expr.kind, .string ((relC l a.ty a.rel).getD zR).expr.ta, .string ((relC l a.ty a.rel).getD zR).expr.tb, .slice o3 ((relC l a.ty a.rel).getD zR).expr.kids.length s3] tRl)).mono hx.size)
          have hk2 := (al2.block _ (Array.getElem?_eq_some_iff.1 H2.out.2.2).1).trans H2.out.2.2
          have HW := Lib.hid (H2.out.2.1.trans (al2.mono H2.out.2.1.size))
          have HW2 := Lib.hid (H2.out.1.trans (al2.mono H2.out.1.size))
          clear d0 d1 d2 hx al2 H2 HR
          obtain ⟨-, d1, -⟩ := box3 hk2
          clear hk2
          have hhas : (relC l a.ty a.rel).isSome = has l a.ty a.rel := rfl
          rw [hhas]
          generalize hhs : has l a.ty a.rel = hs at *
          generalize hnm : a.rel.toList.isEmpty = nm at *
          cases th with
          | false =>
            have HE := Lib.hid (HNO.out (by rw [lost, hth, Bool.not_false, Bool.true_or]))
            clear HNO HYES hth hhs
            go_wp2_with fail
            go_ret
            exact ⟨by rw [HE.out]; rfl, HW.out⟩
          | true =>
            cases nm with
            | true =>
              have HE := Lib.hid (HYES.out (by rw [lost, hth, hnm, Bool.not_true, Bool.false_and, Bool.or_false]))
              clear HNO HYES hth hhs
              go_wp2_with fail
              go_roundw
              case rel => exact ⟨j + 1, by omega, by go_num, HE, HW2.out⟩
              case measure => simp [intOf]; omega
            | false =>
              cases hs with
              | true =>
                have HE := Lib.hid (HYES.out (by rw [lost, hth, hnm, hhs, Bool.not_true, Bool.and_false, Bool.or_false]))
                clear HNO HYES hth hhs
                go_wp2_with fail
                go_roundw
                case rel => exact ⟨j + 1, by omega, by go_num, HE, HW2.out⟩
                case measure => simp [intOf]; omega
              | false =>
                have HE := Lib.hid (HNO.out (by rw [lost, hth, hnm, hhs, Bool.not_true, Bool.not_false, Bool.and_true, Bool.or_true]))
                clear HNO HYES hth hhs
                go_wp2_with fail
                go_ret
                exact ⟨by rw [HE.out]; rfl, HW.out⟩
    · have hj' : j = r.allow.length := by omega
      subst hj'
      have ha := hall.out
      rw [List.take_length] at ha
      have HE := Lib.hid (show allowedP l r = 0 by rw [allowedP, ha]; rfl)
      have HB := Lib.hid (H0.out.1.trans (hb.mono H0.out.1.size))
      clear ha hall hb
      go_wp2_with fail
      go_ret
      exact ⟨by rw [HE.out]; rfl, HB.out⟩
end Lt
end Go.Proofs.YtopncohhagebbaaGreatDoor

namespace Go.Proofs.YtopncohhagebbaaGreatDoor
open Go.RowKit
namespace Lt
open Tr (Nd IsNode node4 none0 size own_open own_slice own_below IsElem walk_rows Rf)
open Gr (Al Rl Ty IsAl IsRl IsTy IsCf Lies ty_at rl_at al_at alV relV tyV tAl tRl tTy tCf box1 box2 box6 two_boxes)
open Cn (box3 all_at)

abbrev tRf : TypeId := 99
abbrev rfV (x : Rf) : Value := .agg #[.string x.via, .string x.rel, .bool x.odd]
theorem relC_mem : ∀ {l : List Ty} {ty rl : ByteArray} {r : Rl}, relC l ty rl = some r → ∃ t ∈ l, r ∈ t.rels
  | [], _, _, _, h => by simp [relC] at h
  | t :: l, ty, rl, r, h => by
    rw [relC, Option.or_eq_some_iff] at h
    rcases h with h | ⟨-, h⟩
    · refine ⟨t, by simp, ?_⟩
      rw [relT] at h
      split at h
      · exact List.mem_of_find?_eq_some h
      · cases h
    · obtain ⟨t', h1, h2⟩ := relC_mem h
      exact ⟨t', by simp [h1], h2⟩
def worse (a : Al) : Bool := !a.rel.toList.isEmpty || a.wild
theorem refP_some {l : List Ty} {ty : ByteArray} {x : Rf} {v : Rl} (hn : x.via.toList.isEmpty = false) (h : relC l ty x.via = some v) :
    refP l ty x = if v.expr.kind ≠ 1 then 15 else if v.allow.any worse then 15 else if (typesP v.allow).all (fun t => has l t x.rel) then 0 else 13 := by
  rw [refP, if_neg (by rw [hn]; decide), h]
  rfl
theorem acts_two {Pr : Program} {ops : Array Oper} {Q : Exit → Act → World → Prop} {md : Region.Mode} {R : World → World → Prop} (hR : ∀ {x y z}, R x y → R y z → R x z) {w : World} {fuel i j : Nat} {listed : Array Bool} {a : Act} {o p : Oper} (hi : ops[i]? = some o) (hj : ops[j]? = some p) (hr : Region.ready md ops listed = [i, j])
    (hw : Region.wanted o (yielded ops a.tmps) = true) (hv : Region.wanted p (yielded ops a.tmps) = true) (h : o.wp Pr a w (fun a' x => R w x ∧ wpAnyH Pr md ops Q (R x) fuel (listed.setIfInBounds i true) a' x) Q)
    (k : p.wp Pr a w (fun a' x => R w x ∧ wpAnyH Pr md ops Q (R x) fuel (listed.setIfInBounds j true) a' x) Q) :
    wpAnyH Pr md ops Q (R w) (fuel + 1) listed a w := by
  refine wpAnyH_all hr (by simp) fun n hn => ?_
  rcases List.mem_cons.1 hn with rfl | hn
  · unfold wpOp
    simp only [hi, hw, if_true]
    exact .inl (Oper.wp_mono (fun a' x hx => ⟨hx.1, Order.any_mono (fun y hy => hR hx.1 hy) _ _ _ _ hx.2⟩) h)
  · rw [List.mem_singleton] at hn
    subst hn
    unfold wpOp
    simp only [hj, hv, if_true]
    exact .inl (Oper.wp_mono (fun a' x hx => ⟨hx.1, Order.any_mono (fun y hy => hR hx.1 hy) _ _ _ _ hx.2⟩) k)
def Scant (l : List Ty) : Prop := ∀ t ∈ l, ∀ r ∈ t.rels, r.allow.length ≤ 100000

set_option maxHeartbeats 16000000 in
set_option maxRecDepth 100000 in
theorem rref_any (l : List Ty) (v : Value) (w : World) (h : IsCf w l v) (hs : Scant l) (ty : ByteArray) (x : Rf) :
    Calls Tryz.prog 151 #[v, .string ty, rfV x] w fun e y => e = .returned (.int .i64 (refP l ty x)) ∧ Below w.heap.size w y := by
  obtain ⟨via, rel, odd⟩ := x
  have HR := Lib.hid (fun z (hb : Below w.heap.size w z) a b => rrel_any l v z (h.below hb) a b)
  have HS := Lib.hid hs
  obtain ⟨ao, cap, us, rfl, -⟩ := h
  obtain ⟨q1, q2, q3, q4⟩ := two_boxes w #[.slice ao l.length cap] #[.string via, .string rel, .bool odd] tCf tRf
  have H0 := Lib.hid (And.intro q1 (And.intro q2 (And.intro q3 q4)))
  clear hs q1 q2 q3 q4
  go_enter Tryz.func151, Tryz.ntmps151
  go_upto_region 1 with fail
  generalize (w.alloc (.cells #[.slice ao l.length cap] tCf)).alloc (.cells #[.string via, .string rel, .bool odd] tRf) = X at *
  have b0 := box1 H0.out.2.1
  obtain ⟨d0, d1, d2⟩ := box3 H0.out.2.2.1
  cases hnm : via.toList.isEmpty with
  | true =>
    have HR1 := Lib.hid (HR.out X H0.out.1 ty rel)
    cases hh : relC l ty rel with
    | none =>
      rw [hh] at HR1
      have HE := Lib.hid (show refP l ty ⟨via, rel, odd⟩ = 13 by rw [refP, if_pos hnm, if_neg (by rw [has, hh]; decide)])
      clear hh HR HS
      go_wp2_with fail
      refine HR1.out.mono ?_
      rintro e y ⟨u, rfl, ⟨o2, s2, o3, s3, us2, rfl, -, -⟩, hx⟩
      have HB := Lib.hid (H0.out.1.trans ((hx.trans ((Tr.fresh_one y (.cells #[.string ((none : Option Rl).getD zR).name, .slice o2 ((none : Option Rl).getD zR).allow.length s2, .int .i64 ((none : Option Rl).getD zR).expr.kind, .string ((none : Option Rl).getD zR).expr.ta, .string ((none : Option Rl).getD zR).expr.tb, .slice o3 ((none : Option Rl).getD zR).expr.kids.length s3] tRl)).mono hx.size)).mono H0.out.1.size))
      clear hx HR1
      go_wp2_with fail
      go_ret
      exact ⟨by rw [HE.out]; rfl, HB.out⟩
    | some r =>
      rw [hh] at HR1
      have HE := Lib.hid (show refP l ty ⟨via, rel, odd⟩ = 0 by rw [refP, if_pos hnm, if_pos (by rw [has, hh]; rfl)])
      clear hh HR HS
      go_wp2_with fail
      refine HR1.out.mono ?_
      rintro e y ⟨u, rfl, ⟨o2, s2, o3, s3, us2, rfl, -, -⟩, hx⟩
      have HB := Lib.hid (H0.out.1.trans ((hx.trans ((Tr.fresh_one y (.cells #[.string r.name, .slice o2 r.allow.length s2, .int .i64 r.expr.kind, .string r.expr.ta, .string r.expr.tb, .slice o3 r.expr.kids.length s3] tRl)).mono hx.size)).mono H0.out.1.size))
      clear hx HR1
      go_wp2_with fail
      go_ret
      exact ⟨by rw [HE.out]; rfl, HB.out⟩
  | false =>
    have HR1 := Lib.hid (HR.out X H0.out.1 ty via)
    cases hh : relC l ty via with
    | none =>
      rw [hh] at HR1
      have HE := Lib.hid (show refP l ty ⟨via, rel, odd⟩ = 13 by rw [refP, if_neg (by rw [hnm]; decide), hh])
      clear hh HR HS
      go_wp2_with fail
      refine HR1.out.mono ?_
      rintro e y ⟨u, rfl, ⟨o2, s2, o3, s3, us2, rfl, -, -⟩, hx⟩
      have HB := Lib.hid (H0.out.1.trans ((hx.trans ((Tr.fresh_one y (.cells #[.string ((none : Option Rl).getD zR).name, .slice o2 ((none : Option Rl).getD zR).allow.length s2, .int .i64 ((none : Option Rl).getD zR).expr.kind, .string ((none : Option Rl).getD zR).expr.ta, .string ((none : Option Rl).getD zR).expr.tb, .slice o3 ((none : Option Rl).getD zR).expr.kids.length s3] tRl)).mono hx.size)).mono H0.out.1.size))
      clear hx HR1
      go_wp2_with fail
      go_ret
      exact ⟨by rw [HE.out]; rfl, HB.out⟩
    | some r =>
      rw [hh] at HR1
      have HQ := Lib.hid (refP_some (x := ⟨via, rel, odd⟩) hnm hh)
      obtain ⟨t0, ht0, hr0⟩ := relC_mem hh
      have hsc := HS.out t0 ht0 r hr0
      clear hh HS ht0 hr0
      go_wp2_with fail
      refine HR1.out.mono ?_
      rintro e y ⟨u, rfl, ⟨o2, s2, o3, s3, us2, rfl, hla, hnd⟩, hx⟩
      simp only [Option.getD_some] at hla hnd ⊢
      have al := Tr.fresh_one y (.cells #[.string r.name, .slice o2 r.allow.length s2, .int .i64 r.expr.kind, .string r.expr.ta, .string r.expr.tb, .slice o3 r.expr.kids.length s3] tRl)
      have hk := heap_alloc_new y (.cells #[.string r.name, .slice o2 r.allow.length s2, .int .i64 r.expr.kind, .string r.expr.ta, .string r.expr.tb, .slice o3 r.expr.kids.length s3] tRl)
      have hb1 := hx.trans (al.mono hx.size)
      have H1 := Lib.hid (And.intro (H0.out.1.trans (hb1.mono H0.out.1.size)) (And.intro ((hb1.block _ (by have := H0.out.2.2.2; omega)).trans H0.out.2.1) (And.intro ((hb1.block _ (by have := H0.out.2.2.2; omega)).trans H0.out.2.2.1) (And.intro hk (And.intro (hla.on al fun _ _ h => h) (hnd.below al))))))
      have hbig : r.allow.length ≤ 9223372036854775807 := hla.big
      clear hx HR1 al hk hb1 hla hnd b0 d0 d1 d2
      go_upto_region 7 with fail
      generalize y.alloc (.cells #[.string r.name, .slice o2 r.allow.length s2, .int .i64 r.expr.kind, .string r.expr.ta, .string r.expr.tb, .slice o3 r.expr.kids.length s3] tRl) = Y at *
      generalize y.heap.size = R2 at *
      obtain ⟨k0, k1, k2, k3, k4, k5⟩ := box6 H1.out.2.2.2.1
      by_cases hk : r.expr.kind = 1
      · have e1 : (r.expr.kind != 1) = false := by simpa using hk
        rw [if_neg (by simpa using hk)] at HQ
        clear hk
        go_wp2_with fail
        clear k0 k1 k2 k3 k4 k5 e1
        go_loopw [46] (fun i wr => ∃ j : Nat, j ≤ r.allow.length ∧ i = .int .i64 j ∧ Hid ((r.allow.take j).any worse = false) ∧ Below Y.heap.size Y wr) (fun i _ => r.allow.length - (intOf i).toNat)
        case atStart => exact ⟨0, by omega, rfl, Lib.hid rfl, Below.refl _ _⟩
        case round =>
          obtain ⟨j, hj, rfl, hall, hb⟩ := hrel
          have hk1 := (hb.block _ (Array.getElem?_eq_some_iff.1 H1.out.2.2.2.1).1).trans H1.out.2.2.2.1
          obtain ⟨k0, k1, k2, k3, k4, k5⟩ := box6 hk1
          by_cases hlt : j < r.allow.length
          · obtain ⟨g, q, hix, hg, c0, c1, c2⟩ := al_at (H1.out.2.2.2.2.1.on hb fun _ _ h => h) s2 hlt
            have hat := any_false_take hlt hall.out
            generalize r.allow[j] = a at *
            have HB := Lib.hid hb
            clear hb hk1 k0 k2 k3 k4 k5 hg hall
            cases hn : a.rel.toList.isEmpty with
            | false =>
              have HE := Lib.hid (show refP l ty ⟨via, rel, odd⟩ = 15 by rw [HQ.out, if_pos (hat.1 (by rw [worse, hn]; rfl))])
              have HW := Lib.hid (H1.out.1.trans (HB.out.mono H1.out.1.size))
              clear hat
              go_wp2_with fail
              go_ret
              exact ⟨by rw [HE.out]; rfl, HW.out⟩
            | true =>
              cases hw : a.wild with
              | true =>
                rw [hw] at c2
                have HE := Lib.hid (show refP l ty ⟨via, rel, odd⟩ = 15 by rw [HQ.out, if_pos (hat.1 (by rw [worse, hn, hw]; rfl))])
                have HW := Lib.hid (H1.out.1.trans (HB.out.mono H1.out.1.size))
                clear hat hw
                go_wp2_with fail
                go_ret
                exact ⟨by rw [HE.out]; rfl, HW.out⟩
              | false =>
                rw [hw] at c2
                have HE := Lib.hid (hat.2 (by rw [worse, hn, hw]; rfl))
                clear hat hw
                go_wp2_with fail
                go_roundw
                case rel => exact ⟨j + 1, by omega, by go_num, HE, HB.out⟩
                case measure => simp [intOf]; omega
          · have hj' : j = r.allow.length := by omega
            subst hj'
            have ha := hall.out
            rw [List.take_length] at ha
            rw [if_neg (by rw [ha]; decide)] at HQ
            have hbw := H1.out.1.trans (hb.mono H1.out.1.size)
            have HT := Lib.hid (rtypes_any r (relV r (.slice o2 r.allow.length s2) (.slice o3 r.expr.kids.length s3)) wr ⟨o2, s2, o3, s3, us2, rfl, H1.out.2.2.2.2.1.on hb fun _ _ h => h, H1.out.2.2.2.2.2.below hb⟩ hsc)
            have H2 := Lib.hid (And.intro hbw (And.intro ((hb.block _ (Array.getElem?_eq_some_iff.1 H1.out.2.1).1).trans H1.out.2.1) ((hb.block _ (Array.getElem?_eq_some_iff.1 H1.out.2.2.1).1).trans H1.out.2.2.1)))
            have hln := typesP_len r.allow
            clear ha hall hb hk1 hbw
            go_wp2_with fail
            clear k0 k1 k2 k3 k4 k5
            refine HT.out.mono ?_
            rintro e z ⟨tv, rfl, hrow, hx⟩
            obtain ⟨tq, tc, rfl⟩ := own_slice hrow
            have H3 := Lib.hid (And.intro (H2.out.1.trans (hx.mono H2.out.1.size)) (And.intro ((hx.block _ (Array.getElem?_eq_some_iff.1 H2.out.2.1).1).trans H2.out.2.1) (And.intro ((hx.block _ (Array.getElem?_eq_some_iff.1 H2.out.2.2).1).trans H2.out.2.2) hrow)))
            clear hx hrow HT H2
            generalize typesP r.allow = ts at *
            have htl : ts.length ≤ 9223372036854775807 := by omega
            go_wp2_with fail
            go_loopw [69] (fun i wr => ∃ k : Nat, k ≤ ts.length ∧ i = .int .i64 k ∧ Hid ((ts.take k).all (fun t => has l t rel) = true) ∧ Below z.heap.size z wr) (fun i _ => ts.length - (intOf i).toNat)
            case atStart => exact ⟨0, by omega, rfl, Lib.hid rfl, Below.refl _ _⟩
            case round =>
              obtain ⟨k, hk, rfl, hall, hb⟩ := hrel
              by_cases hkt : k < ts.length
              · have hbw := H3.out.1.trans (hb.mono H3.out.1.size)
                have hat := all_at hkt hall.out
                obtain ⟨g, q, hix, -, hg, c0⟩ := str_at (StrRow.below (show StrRow _ z _ ts from H3.out.2.2.2) hb) hkt
                have HR2 := Lib.hid (fun y (hy : Below wr.heap.size wr y) => HR.out y (hbw.trans (hy.mono hbw.size)) ts[k] rel)
                generalize ts[k] = t at *
                have HX := Lib.hid (show ∀ y, Below wr.heap.size wr.drew y → y.cell? ⟨w.heap.size, 0, none⟩ = some (.slice ao l.length cap) ∧ y.cell? ⟨w.heap.size + 1, 1, none⟩ = some (.string rel) ∧ y.cell? ⟨g, q, none⟩ = some (.string t) from fun y hy => by
                  have hy1 : Below wr.heap.size wr y := (Below.refl _ _).drew.trans hy
                  have hy2 : Below z.heap.size z y := hb.trans (hy1.mono hb.size)
                  exact ⟨box1 ((hy2.block _ (Array.getElem?_eq_some_iff.1 H3.out.2.1).1).trans H3.out.2.1), (box3 ((hy2.block _ (Array.getElem?_eq_some_iff.1 H3.out.2.2.1).1).trans H3.out.2.2.1)).2.1, (hy1.cell (p := ⟨g, q, none⟩) hg).trans c0⟩)
                have HAT := Lib.hid hat
                have HB := Lib.hid (And.intro hb hbw)
                clear c0 hg hat hall hb hbw
                go_wp2_with fail
                refine Order.region_begin (S := Below wr.heap.size wr.drew) (by kernel_rfl) ?_
                refine Order.reads_any (idx := [0, 1, 2, 3, 4, 5, 6]) (by kernel_rfl) (Below.refl _ _) (fun _ _ _ _ _ h => Order.noPanic_put h) 7 _ _ (by decide +kernel) ?_
                simp only [Order.pick, List.getElem?_toArray, List.getElem?_cons_zero, List.getElem?_cons_succ]
                repeat (first
                  | (refine Order.reads_off (by rfl) ?_
                     simp only [Act.put, List.setIfInBounds_toArray, List.set_cons_zero, List.set_cons_succ])
                  | (apply Order.reads_on
                     · rfl
                     · intro x hx
                       first
                         | (go_simp; rfl)
                         | (obtain ⟨i1, i2, i3⟩ := HX.out x hx
                            go_simp; rfl)
                     simp only [Act.put, List.setIfInBounds_toArray, List.set_cons_zero, List.set_cons_succ]))
                refine Order.reads_end ?_
                generalize hhs : (relC l t rel).isSome = hs at *
                apply acts_two (R := Below wr.heap.size) (fun h k => h.trans k) (i := 7) (j := 11)
                · rfl
                · rfl
                · decide +kernel
                · rfl
                · rfl
                · unfold Oper.wp
                  go_simp
                  refine Calls.mono (HR2.out _ (Below.refl _ _).drew) ?_
                  rintro e y ⟨u, rfl, ⟨o4, s4, o5, s5, us4, rfl, -, -⟩, hy⟩
                  refine ⟨hy, ?_⟩
                  generalize (relC l t rel).getD zR = rr at *
                  refine Order.reads_any (idx := [8, 9, 10]) (by kernel_rfl) (Below.refl _ _) (fun _ _ _ _ _ h => Order.noPanic_put h) 3 _ _ (by decide +kernel) ?_
                  simp only [Order.pick, List.getElem?_toArray, List.getElem?_cons_zero, List.getElem?_cons_succ]
                  repeat (first
                    | (refine Order.reads_off (by rfl) ?_
                       simp only [Act.put, List.setIfInBounds_toArray, List.set_cons_zero, List.set_cons_succ])
                    | (apply Order.reads_on
                       · rfl
                       · intro x hx
                         first
                           | (go_simp; rfl)
                           | (fail
                              go_simp; rfl)
                       simp only [Act.put, List.setIfInBounds_toArray, List.set_cons_zero, List.set_cons_succ]))
                  refine Order.reads_end ?_
                  have al := Tr.fresh_one y (.cells #[.string ⟨#[]⟩, .slice none 0 0, .int .i64 0, .string ⟨#[]⟩, .string ⟨#[]⟩, .slice none 0 0] tRl)
                  have hk := heap_alloc_new y (.cells #[.string ⟨#[]⟩, .slice none 0 0, .int .i64 0, .string ⟨#[]⟩, .string ⟨#[]⟩, .slice none 0 0] tRl)
                  have HZ := Lib.hid (And.intro (hy.trans (al.mono hy.size)) (And.intro (Nat.le_trans (show wr.heap.size ≤ y.heap.size from hy.size) al.size) (And.intro (show wr.heap.size ≤ y.heap.size from hy.size) hk)))
                  have HAL := Lib.hid (show Below wr.heap.size y (y.alloc (.cells #[.string ⟨#[]⟩, .slice none 0 0, .int .i64 0, .string ⟨#[]⟩, .string ⟨#[]⟩, .slice none 0 0] tRl)) from al.mono hy.size)
                  clear al hk hy
                  apply Order.acts_any (R := (Below wr.heap.size)) (fun h k => h.trans k) (i := 11)
                  · rfl
                  · decide +kernel
                  · rfl
                  unfold Oper.wp
                  go_simp
                  refine ⟨HAL.out, ?_⟩
                  clear HAL
                  generalize y.alloc (.cells #[.string ⟨#[]⟩, .slice none 0 0, .int .i64 0, .string ⟨#[]⟩, .string ⟨#[]⟩, .slice none 0 0] tRl) = Z at *
                  generalize y.heap.size = R5 at *
                  obtain ⟨k0, k1, k2, k3, k4, k5⟩ := box6 HZ.out.2.2.2
                  obtain ⟨f0, f1, f2, f3, f4, f5⟩ := free6 HZ.out.2.2.2
                  have htu := (set6_turns Z R5 (.string rr.name) (.slice o4 rr.allow.length s4) (.int .i64 rr.expr.kind) (.string rr.expr.ta) (.string rr.expr.tb) (.slice o5 rr.expr.kids.length s5)).below (B := wr.heap.size) HZ.out.2.1 (fun k hk => by have := HZ.out.2.2.1; omega)
                  have HW := Lib.hid (And.intro htu (HZ.out.1.trans htu))
                  clear htu
                  apply Order.acts_any (R := (Below wr.heap.size)) (fun h k => h.trans k) (i := 12)
                  · rfl
                  · decide +kernel
                  · rfl
                  unfold Oper.wp
                  go_simp
                  refine ⟨HW.out.1, ?_⟩
                  clear k0 k1 k2 k3 k4 k5 f0 f1 f2 f3 f4 f5
                  refine Order.reads_any (idx := [13]) (by kernel_rfl) (Below.refl _ _) (fun _ _ _ _ _ h => Order.noPanic_put h) 0 _ _ (by decide +kernel) ?_
                  simp only [Order.pick, List.getElem?_toArray, List.getElem?_cons_zero, List.getElem?_cons_succ]
                  repeat (first
                    | (refine Order.reads_off (by rfl) ?_
                       simp only [Act.put, List.setIfInBounds_toArray, List.set_cons_zero, List.set_cons_succ])
                    | (apply Order.reads_on
                       · rfl
                       · intro x hx
                         first
                           | (go_simp; rfl)
                           | (fail
                              go_simp; rfl)
                       simp only [Act.put, List.setIfInBounds_toArray, List.set_cons_zero, List.set_cons_succ]))
                  refine Order.reads_end ?_
                  refine wpAnyH_done (by decide +kernel) ?_ _
                  refine NoPanic.normal ?_
                  change Exit.then _ _ _ _ (set6 Z R5 (.string rr.name) (.slice o4 rr.allow.length s4) (.int .i64 rr.expr.kind) (.string rr.expr.ta) (.string rr.expr.tb) (.slice o5 rr.expr.kids.length s5))
                  generalize set6 Z R5 (.string rr.name) (.slice o4 rr.allow.length s4) (.int .i64 rr.expr.kind) (.string rr.expr.ta) (.string rr.expr.tb) (.slice o5 rr.expr.kids.length s5) = F at *
                  have hbF : Below wr.heap.size wr F := (Below.refl _ _).drew.trans HW.out.2
                  have hF1 := HB.out.1.trans (hbF.mono HB.out.1.size)
                  have HF := Lib.hid (And.intro hF1 (H3.out.1.trans (hF1.mono H3.out.1.size)))
                  clear hbF hF1 HW HZ
                  cases hs with
                  | false =>
                    have ha := HAT.out.1 hhs
                    rw [if_neg (by rw [ha]; decide)] at HQ
                    have HE := Lib.hid HQ.out
                    clear ha hhs HAT
                    go_wp2_with fail
                    go_ret
                    exact ⟨by rw [HE.out]; rfl, HF.out.2⟩
                  | true =>
                    have HE := Lib.hid (HAT.out.2 hhs)
                    clear hhs HAT
                    go_wp2_with fail
                    go_roundw
                    case rel => exact ⟨k + 1, by omega, by go_num, HE, HF.out.1⟩
                    case measure => simp [intOf]; omega
                · unfold Oper.wp
                  go_simp
                  have al : Below wr.heap.size wr.drew (wr.alloc (.cells #[.string ⟨#[]⟩, .slice none 0 0, .int .i64 0, .string ⟨#[]⟩, .string ⟨#[]⟩, .slice none 0 0] tRl)).drew := ⟨rfl, rfl, rfl, (Tr.fresh_one wr (.cells #[.string ⟨#[]⟩, .slice none 0 0, .int .i64 0, .string ⟨#[]⟩, .string ⟨#[]⟩, .slice none 0 0] tRl)).size, (Tr.fresh_one wr (.cells #[.string ⟨#[]⟩, .slice none 0 0, .int .i64 0, .string ⟨#[]⟩, .string ⟨#[]⟩, .slice none 0 0] tRl)).block⟩
                  have hk : (wr.alloc (.cells #[.string ⟨#[]⟩, .slice none 0 0, .int .i64 0, .string ⟨#[]⟩, .string ⟨#[]⟩, .slice none 0 0] tRl)).drew.heap[wr.heap.size]? = _ := heap_alloc_new wr (.cells #[.string ⟨#[]⟩, .slice none 0 0, .int .i64 0, .string ⟨#[]⟩, .string ⟨#[]⟩, .slice none 0 0] tRl)
                  refine ⟨al, ?_⟩
                  have hal : Below wr.heap.size wr (wr.alloc (.cells #[.string ⟨#[]⟩, .slice none 0 0, .int .i64 0, .string ⟨#[]⟩, .string ⟨#[]⟩, .slice none 0 0] tRl)).drew := (Below.refl _ _).drew.trans al
                  have HK := Lib.hid (And.intro hk (And.intro hal al))
                  clear al hk hal
                  have HC2 := Lib.hid (HR2.out _ HK.out.2.1)
                  generalize (wr.alloc (.cells #[.string ⟨#[]⟩, .slice none 0 0, .int .i64 0, .string ⟨#[]⟩, .string ⟨#[]⟩, .slice none 0 0] tRl)).drew = Y5 at *
                  apply Order.acts_any (R := (Below wr.heap.size)) (fun h k => h.trans k) (i := 7)
                  · rfl
                  · decide +kernel
                  · rfl
                  unfold Oper.wp
                  go_simp
                  refine Calls.mono HC2.out ?_
                  rintro e Z ⟨u, rfl, ⟨o4, s4, o5, s5, us4, rfl, -, -⟩, hy⟩
                  refine ⟨hy.mono HK.out.2.1.size, ?_⟩
                  generalize (relC l t rel).getD zR = rr at *
                  refine Order.reads_any (idx := [8, 9, 10]) (by kernel_rfl) (Below.refl _ _) (fun _ _ _ _ _ h => Order.noPanic_put h) 2 _ _ (by decide +kernel) ?_
                  simp only [Order.pick, List.getElem?_toArray, List.getElem?_cons_zero, List.getElem?_cons_succ]
                  repeat (first
                    | (refine Order.reads_off (by rfl) ?_
                       simp only [Act.put, List.setIfInBounds_toArray, List.set_cons_zero, List.set_cons_succ])
                    | (apply Order.reads_on
                       · rfl
                       · intro x hx
                         first
                           | (go_simp; rfl)
                           | (fail
                              go_simp; rfl)
                       simp only [Act.put, List.setIfInBounds_toArray, List.set_cons_zero, List.set_cons_succ]))
                  refine Order.reads_end ?_
                  have HZ := Lib.hid (And.intro (HK.out.2.2.trans (hy.mono HK.out.2.1.size)) (And.intro (Nat.le_trans HK.out.2.1.size hy.size) (And.intro (Nat.le_refl wr.heap.size) ((hy.block _ (Array.getElem?_eq_some_iff.1 HK.out.1).1).trans HK.out.1))))
                  clear hy HK HC2
                  obtain ⟨k0, k1, k2, k3, k4, k5⟩ := box6 HZ.out.2.2.2
                  obtain ⟨f0, f1, f2, f3, f4, f5⟩ := free6 HZ.out.2.2.2
                  have htu := (set6_turns Z wr.heap.size (.string rr.name) (.slice o4 rr.allow.length s4) (.int .i64 rr.expr.kind) (.string rr.expr.ta) (.string rr.expr.tb) (.slice o5 rr.expr.kids.length s5)).below (B := wr.heap.size) HZ.out.2.1 (fun k hk => by have := HZ.out.2.2.1; omega)
                  have HW := Lib.hid (And.intro htu (HZ.out.1.trans htu))
                  clear htu
                  apply Order.acts_any (R := (Below wr.heap.size)) (fun h k => h.trans k) (i := 12)
                  · rfl
                  · decide +kernel
                  · rfl
                  unfold Oper.wp
                  go_simp
                  refine ⟨HW.out.1, ?_⟩
                  clear k0 k1 k2 k3 k4 k5 f0 f1 f2 f3 f4 f5
                  refine Order.reads_any (idx := [13]) (by kernel_rfl) (Below.refl _ _) (fun _ _ _ _ _ h => Order.noPanic_put h) 0 _ _ (by decide +kernel) ?_
                  simp only [Order.pick, List.getElem?_toArray, List.getElem?_cons_zero, List.getElem?_cons_succ]
                  repeat (first
                    | (refine Order.reads_off (by rfl) ?_
                       simp only [Act.put, List.setIfInBounds_toArray, List.set_cons_zero, List.set_cons_succ])
                    | (apply Order.reads_on
                       · rfl
                       · intro x hx
                         first
                           | (go_simp; rfl)
                           | (fail
                              go_simp; rfl)
                       simp only [Act.put, List.setIfInBounds_toArray, List.set_cons_zero, List.set_cons_succ]))
                  refine Order.reads_end ?_
                  refine wpAnyH_done (by decide +kernel) ?_ _
                  refine NoPanic.normal ?_
                  change Exit.then _ _ _ _ (set6 Z wr.heap.size (.string rr.name) (.slice o4 rr.allow.length s4) (.int .i64 rr.expr.kind) (.string rr.expr.ta) (.string rr.expr.tb) (.slice o5 rr.expr.kids.length s5))
                  generalize set6 Z wr.heap.size (.string rr.name) (.slice o4 rr.allow.length s4) (.int .i64 rr.expr.kind) (.string rr.expr.ta) (.string rr.expr.tb) (.slice o5 rr.expr.kids.length s5) = F at *
                  have hbF : Below wr.heap.size wr F := (Below.refl _ _).drew.trans HW.out.2
                  have hF1 := HB.out.1.trans (hbF.mono HB.out.1.size)
                  have HF := Lib.hid (And.intro hF1 (H3.out.1.trans (hF1.mono H3.out.1.size)))
                  clear hbF hF1 HW HZ
                  cases hs with
                  | false =>
                    have ha := HAT.out.1 hhs
                    rw [if_neg (by rw [ha]; decide)] at HQ
                    have HE := Lib.hid HQ.out
                    clear ha hhs HAT
                    go_wp2_with fail
                    go_ret
                    exact ⟨by rw [HE.out]; rfl, HF.out.2⟩
                  | true =>
                    have HE := Lib.hid (HAT.out.2 hhs)
                    clear hhs HAT
                    go_wp2_with fail
                    go_roundw
                    case rel => exact ⟨k + 1, by omega, by go_num, HE, HF.out.1⟩
                    case measure => simp [intOf]; omega
              · have hk' : k = ts.length := by omega
                subst hk'
                have ha := hall.out
                rw [List.take_length] at ha
                rw [if_pos ha] at HQ
                have HE := Lib.hid HQ.out
                have HB := Lib.hid (H3.out.1.trans (hb.mono H3.out.1.size))
                clear ha hall hb
                go_wp2_with fail
                go_ret
                exact ⟨by rw [HE.out]; rfl, HB.out⟩
      · have e1 : (r.expr.kind != 1) = true := by simpa using hk
        rw [if_pos hk] at HQ
        have HE := Lib.hid HQ.out
        clear hk
        go_wp2_with fail
        go_ret
        exact ⟨by rw [HE.out]; rfl, H1.out.1⟩
end Lt
end Go.Proofs.YtopncohhagebbaaGreatDoor
