/-
  Layer 7 (grammar): rows behind rows; list, at nodes and allowances. Written by gen/mk_gl.py.
-/
import Derived.Test.YtbphmaoomnocmaaDoorGrEach
namespace Go.Proofs.YtbphmaoomnocmaaDoor
open Go.RowKit
namespace Gr
open Knot (Turns NewRow)
open Tr (Nd none0 node4 own_slice walk_rows IsElem append_rows append_none)
open Sg (Tok kt)

section
variable {α : Type} {E : Elt α}
theorem cellsV_one' {w : World} : ∀ {us : List Value} {m : List α}, us.length = m.length → (∀ (i : Nat) (a : α) (u : Value), m[i]? = some a → us[i]? = some u → ∃ S, E.is S w a u) → ∀ c ∈ cellsV us, c.oneCell' = true := by
  intro us m hl h c hc
  rw [cellsV, List.mem_flatMap] at hc
  obtain ⟨u, hu, hc⟩ := hc
  obtain ⟨i, hi, rfl⟩ := List.getElem_of_mem hu
  obtain ⟨S, hS⟩ := h i (m[i]'(by omega)) _ (List.getElem?_eq_getElem _) (List.getElem?_eq_getElem _)
  exact E.one hS c hc
theorem RowS.join {P : Program} {w : World} {t e : TypeId} {i : TypeInfo} {z : Value} {by' : Nat} (T : IsElem P t e i z E.c by') (hby : by' ≤ 300) (ty : TypeId) {B C : Nat} {v u : Value} {l m : List α} (h1 : RowS E w B e v l) (h2 : RowS E w C e u m)
    (hB : B ≤ C) (hlt : ∀ k, v.ownBlock = some k → k < C) (hw : B ≤ w.heap.size) (hz : l.length + m.length ≤ 100000) :
    ∃ v' y, (Builtin.append_ #[t, t] ty #[v, u]).run P w = .ok v' y ∧ RowS E y B e v' (l ++ m) ∧ Turns (fun k => v.ownBlock = some k) w y := by
  obtain ⟨vs, o1, o2, o3⟩ := h1
  obtain ⟨us, p1, p2, p3⟩ := h2
  have hm : ∀ (i : Nat) (a : α) (x : Value), m[i]? = some a → us[i]? = some x → E.is (fun g => C ≤ g) w a x := fun i a x hi hx => Elt.mono (p3 i a x hi hx) fun g hg _ => hg.1
  rcases p1.2 with ⟨rfl, h0⟩ | ⟨g, cap, cur, rfl, hbg, hg, hnc, hcm, hcs, htake⟩
  · have hnil : m = [] := List.eq_nil_of_length_eq_zero h0
    subst hnil
    refine ⟨v, w, append_none T ty o1 (by omega), ?_, Turns.refl _ _⟩
    rw [List.append_nil]
    exact ⟨vs, o1, o2, o3⟩
  · obtain ⟨v', y, hr, ho, hgr, hn⟩ := append_rows T ty o1 hw p1.1 (p1.cells (g := g) rfl) (cellsV_one' p2 fun i a x hi hx => ⟨_, hm i a x hi hx⟩) (by omega) (Nat.le_trans (Nat.mul_le_mul_left _ hby) (by omega)) (c := cap)
    exact ⟨v', y, hr, RowS.grow (C := C) o2 o3 p2 hm (fun k hk _ => ⟨Nat.le_trans hB hk, fun e => by have := hlt k e; omega⟩) ho hgr hn, Turns.of_grown hgr fun k hk => hk⟩
/-- For the walk: a row behind a row. -/
theorem walk_join {P : Program} {w : World} {t e : TypeId} {i : TypeInfo} {z : Value} {by' : Nat} {ops : Array Oper} {Q : Exit → Act → World → Prop} {o : Oper} {rest : List Oper} {a : Act} (T : IsElem P t e i z E.c by') (hby : by' ≤ 300) (hgd : o.guard = none) (s x : Operand) (ho : o.op = .call { callee := .builtin .append, args := #[s, x], argTypes := #[t, t] })
    {B C : Nat} {v u : Value} {l m : List α} (hs : a.eval s = v) (hx : a.eval x = u) (h1 : RowS E w B e v l) (h2 : RowS E w C e u m)
    (hB : B ≤ C) (hlt : ∀ k, v.ownBlock = some k → k < C) (hw : B ≤ w.heap.size) (hz : l.length + m.length ≤ 100000)
    (h : ∀ v' y, RowS E y B e v' (l ++ m) → Turns (fun k => v.ownBlock = some k) w y → wpList P ops Q rest (a.put o.dst v') y) : wpList P ops Q (o :: rest) a w := by
  refine wpList_plain hgd fun K hK => ?_
  obtain ⟨v', y, hr, h3, h4⟩ := RowS.join T hby o.type h1 h2 hB hlt hw hz
  unfold Oper.wp execOp
  simp only [ho, resolve, invoke, builtin, Sem.run_bind, Sem.run_pure, Result.andThen_ok, List.map_toArray, List.map_cons, List.map_nil, hs, hx, hr]
  exact hK _ _ (h v' y h3 h4)
end
theorem own_single {w : World} {T : TypeId} {cs : List Value} {c : Nat} (hc : cs.length = c) : (w.alloc (.cells cs.toArray T)).ownsRow w.heap.size T c (.slice (some ⟨w.heap.size, 0, none⟩) 1 1) 1 cs := by
  refine ⟨by rw [hc, Nat.one_mul], .inr ⟨w.heap.size, 1, cs.toArray, rfl, Nat.le_refl _, heap_alloc_new w _, Nat.le_refl _, by unfold maxLen; omega, by simp [hc], ?_⟩⟩
  rw [List.take_of_length_le]
  simp [hc]

set_option maxHeartbeats 4000000 in
set_option maxRecDepth 100000 in
theorem listN_any {c : Ctx} {o : Nat} {f : FuncId} {p : St → Nd × St} (hp : Part nodeE c o f p) (hf : Fine p) {k : Int} (hk : k ≠ 0) {s : St} {x : World} (h : Rd c o s x) :
    Calls Tryd.prog 41 #[.pointer (some ⟨c.R, 0, none⟩), .int .i64 k, .func (.func f) #[] #[]] x (Outs nodeE 25 c o (list p k s) x) := by
  have HE := hp.enter
  have HP := Lib.hid hp
  have HF := Lib.hid hf
  have HR := Lib.hid h.lt
  have HC := Lib.hid (hp.run s x h)
  have hlen := h.len
  have hlen2 := h.env.len
  have HL := Lib.hid (show s.rest.length ≤ 10000 by omega)
  clear hp hf h hlen hlen2
  go_enter Tryd.func41, Tryd.ntmps41
  go_wp2_with fail
  refine HC.out.mono ?_
  rintro e z ⟨v, rfl, hv, h3, h4⟩
  have HV := Lib.hid hv
  obtain ⟨ao, cap, us, rfl, -⟩ := NodeS.open hv
  have al : Below z.heap.size z (z.alloc (.cells ([.int .i64 (p s).1.kind, .string (p s).1.ta, .string (p s).1.tb, .slice ao (p s).1.kids.length cap]).toArray 25)) := (Below.refl _ _).alloc (Nat.le_refl _) _
  have hrow : RowS nodeE (z.alloc (.cells ([.int .i64 (p s).1.kind, .string (p s).1.ta, .string (p s).1.tb, .slice ao (p s).1.kids.length cap]).toArray 25)) x.heap.size 25 (.slice (some ⟨z.heap.size, 0, none⟩) 1 1) [(p s).1] :=
    RowS.single (C := x.heap.size) (u := node4 (p s).1.kind (p s).1.ta (p s).1.tb (.slice ao (p s).1.kids.length cap)) HV.out (Sg.own_mono (own_single (c := 4) rfl) h4.size) al (Nat.le_refl _) (Nat.le_refl _)
  have H3 := Lib.hid (h3.below al)
  have H4 := Lib.hid (And.intro (h4.then_below al) (And.intro h4.size (show (z.alloc (.cells ([.int .i64 (p s).1.kind, .string (p s).1.ta, .string (p s).1.tb, .slice ao (p s).1.kids.length cap]).toArray 25)).heap.size = z.heap.size + 1 by simp)))
  have HRow := Lib.hid hrow
  have HC2 := Lib.hid (eachN_any HP.out HF.out hk H3.out)
  clear hv h3 h4 al hrow HC HV
  go_wp2_with fail
  refine HC2.out.mono ?_
  rintro e y ⟨ev, rfl, h5, h6, h7⟩
  have hRow2 : RowS nodeE y x.heap.size 25 (.slice (some ⟨z.heap.size, 0, none⟩) 1 1) [(p s).1] := HRow.out.turn h7 fun g hg _ e => by have := HR.out; omega
  have H6 := Lib.hid (And.intro h6 (And.intro h7 (And.intro h5 hRow2)))
  obtain ⟨eo, ec, rfl⟩ := h5.slice
  obtain ⟨ti, tz, tb, TE, hT⟩ := elN
  have HT := Lib.hid (And.intro TE hT)
  clear h5 h6 h7 hRow2 TE hT HC2 HRow
  go_wp2_with (at_builtin; refine walk_join (E := nodeE) HT.out.1 HT.out.2 rfl _ _ rfl rfl rfl H6.out.2.2.2 H6.out.2.2.1 (by have := H4.out.2; omega) (fun k hk => by have h1 : z.heap.size = k := Option.some.inj hk; have := H4.out.2; omega) (by have := H4.out.2; have := H6.out.2.1.size; omega) (by have h1 := eachs_len HF.out hk (p s).2; have h2 := (HF.out.suf s).length_le; have h3 := HL.out; simp only [List.length_singleton]; omega) ?_)
  intro v2 zz r2 t2
  go_wp2_with fail
  obtain ⟨vo, vc, rfl⟩ := r2.slice
  go_ret
  refine ⟨_, rfl, r2, H6.out.1.turn t2 fun g hg e => ?_, (H4.out.1.trans H6.out.2.1 fun _ _ h => h).trans (G := fun k => (Value.slice (some ⟨z.heap.size, 0, none⟩) 1 1).ownBlock = some k) t2 fun g hg e => ?_⟩
  · have h1 : z.heap.size = g := Option.some.inj e
    have := HR.out; have := H4.out.2; omega
  · have h1 : z.heap.size = g := Option.some.inj e
    have := H4.out.2; omega

set_option maxHeartbeats 4000000 in
set_option maxRecDepth 100000 in
theorem listA_any {c : Ctx} {o : Nat} {f : FuncId} {p : St → Al × St} (hp : Part allowE c o f p) (hf : Fine p) {k : Int} (hk : k ≠ 0) {s : St} {x : World} (h : Rd c o s x) :
    Calls Tryd.prog 94 #[.pointer (some ⟨c.R, 0, none⟩), .int .i64 k, .func (.func f) #[] #[]] x (Outs allowE 51 c o (list p k s) x) := by
  have HE := hp.enter
  have HP := Lib.hid hp
  have HF := Lib.hid hf
  have HR := Lib.hid h.lt
  have HC := Lib.hid (hp.run s x h)
  have hlen := h.len
  have hlen2 := h.env.len
  have HL := Lib.hid (show s.rest.length ≤ 10000 by omega)
  clear hp hf h hlen hlen2
  go_enter Tryd.func94, Tryd.ntmps94
  go_wp2_with fail
  refine HC.out.mono ?_
  rintro e z ⟨v, rfl, hv, h3, h4⟩
  have HV := Lib.hid hv
  obtain rfl : v = alV _ := HV.out
  have al : Below z.heap.size z (z.alloc (.cells ([.string (p s).1.ty, .string (p s).1.rel, .bool (p s).1.wild]).toArray 51)) := (Below.refl _ _).alloc (Nat.le_refl _) _
  have hrow : RowS allowE (z.alloc (.cells ([.string (p s).1.ty, .string (p s).1.rel, .bool (p s).1.wild]).toArray 51)) x.heap.size 51 (.slice (some ⟨z.heap.size, 0, none⟩) 1 1) [(p s).1] :=
    RowS.single (C := x.heap.size) (u := alV (p s).1) HV.out (Sg.own_mono (own_single (c := 3) rfl) h4.size) al (Nat.le_refl _) (Nat.le_refl _)
  have H3 := Lib.hid (h3.below al)
  have H4 := Lib.hid (And.intro (h4.then_below al) (And.intro h4.size (show (z.alloc (.cells ([.string (p s).1.ty, .string (p s).1.rel, .bool (p s).1.wild]).toArray 51)).heap.size = z.heap.size + 1 by simp)))
  have HRow := Lib.hid hrow
  have HC2 := Lib.hid (eachA_any HP.out HF.out hk H3.out)
  clear hv h3 h4 al hrow HC HV
  go_wp2_with fail
  refine HC2.out.mono ?_
  rintro e y ⟨ev, rfl, h5, h6, h7⟩
  have hRow2 : RowS allowE y x.heap.size 51 (.slice (some ⟨z.heap.size, 0, none⟩) 1 1) [(p s).1] := HRow.out.turn h7 fun g hg _ e => by have := HR.out; omega
  have H6 := Lib.hid (And.intro h6 (And.intro h7 (And.intro h5 hRow2)))
  obtain ⟨eo, ec, rfl⟩ := h5.slice
  obtain ⟨ti, tz, tb, TE, hT⟩ := elA
  have HT := Lib.hid (And.intro TE hT)
  clear h5 h6 h7 hRow2 TE hT HC2 HRow
  go_wp2_with (at_builtin; refine walk_join (E := allowE) HT.out.1 HT.out.2 rfl _ _ rfl rfl rfl H6.out.2.2.2 H6.out.2.2.1 (by have := H4.out.2; omega) (fun k hk => by have h1 : z.heap.size = k := Option.some.inj hk; have := H4.out.2; omega) (by have := H4.out.2; have := H6.out.2.1.size; omega) (by have h1 := eachs_len HF.out hk (p s).2; have h2 := (HF.out.suf s).length_le; have h3 := HL.out; simp only [List.length_singleton]; omega) ?_)
  intro v2 zz r2 t2
  go_wp2_with fail
  obtain ⟨vo, vc, rfl⟩ := r2.slice
  go_ret
  refine ⟨_, rfl, r2, H6.out.1.turn t2 fun g hg e => ?_, (H4.out.1.trans H6.out.2.1 fun _ _ h => h).trans (G := fun k => (Value.slice (some ⟨z.heap.size, 0, none⟩) 1 1).ownBlock = some k) t2 fun g hg e => ?_⟩
  · have h1 : z.heap.size = g := Option.some.inj e
    have := HR.out; have := H4.out.2; omega
  · have h1 : z.heap.size = g := Option.some.inj e
    have := H4.out.2; omega
end Gr
end Go.Proofs.YtbphmaoomnocmaaDoor
