/-
  Layer 7 (grammar): rel, typ, config. Written by gen/mk_gre.py.
-/
import Derived.Test.YtbphmaoomnocmaaDoorGrAllow
namespace Go.Proofs.YtbphmaoomnocmaaDoor
open Go.RowKit
namespace Gr
open Knot (Turns NewRow)
open Tr (Nd none0 node4 own_slice RowAt own_open Box4)
open Sg (Tok kt)

abbrev tRl : TypeId := 49
abbrev tTy : TypeId := 46
abbrev tCf : TypeId := 38
def Box6 (R : Nat) (a b d e f g : Value) (x : World) : Prop := x.heap[R]? = some (.cells #[a, b, d, e, f, g] tRl (0, 0))
section
variable {R : Nat} {a b d e f g : Value} {x y : World}
theorem Box6.cells (h : Box6 R a b d e f g x) : x.cell? ⟨R, 0, none⟩ = some a ∧ x.cell? ⟨R, 1, none⟩ = some b ∧ x.cell? ⟨R, 2, none⟩ = some d ∧ x.cell? ⟨R, 3, none⟩ = some e ∧ x.cell? ⟨R, 4, none⟩ = some f ∧ x.cell? ⟨R, 5, none⟩ = some g :=
  ⟨by rw [Lib.cell_of_heap h]; rfl, by rw [Lib.cell_of_heap h]; rfl, by rw [Lib.cell_of_heap h]; rfl, by rw [Lib.cell_of_heap h]; rfl, by rw [Lib.cell_of_heap h]; rfl, by rw [Lib.cell_of_heap h]; rfl⟩
theorem Box6.free (h : Box6 R a b d e f g x) : x.frozen? ⟨R, 0, none⟩ = false ∧ x.frozen? ⟨R, 1, none⟩ = false ∧ x.frozen? ⟨R, 2, none⟩ = false ∧ x.frozen? ⟨R, 3, none⟩ = false ∧ x.frozen? ⟨R, 4, none⟩ = false ∧ x.frozen? ⟨R, 5, none⟩ = false :=
  ⟨Lib.frozen_of_heap h 0, Lib.frozen_of_heap h 1, Lib.frozen_of_heap h 2, Lib.frozen_of_heap h 3, Lib.frozen_of_heap h 4, Lib.frozen_of_heap h 5⟩
def set6 (x : World) (R : Nat) (a b d e f g : Value) : World := (((((x.setCell ⟨R, 0, none⟩ a).setCell ⟨R, 1, none⟩ b).setCell ⟨R, 2, none⟩ d).setCell ⟨R, 3, none⟩ e).setCell ⟨R, 4, none⟩ f).setCell ⟨R, 5, none⟩ g
theorem Box6.set (h : Box6 R a b d e f g x) (a' b' d' e' f' g' : Value) : Box6 R a' b' d' e' f' g' (set6 x R a' b' d' e' f' g') :=
  Lib.heap_setCell_same (i := 5) (Lib.heap_setCell_same (i := 4) (Lib.heap_setCell_same (i := 3) (Lib.heap_setCell_same (i := 2) (Lib.heap_setCell_same (i := 1) (Lib.heap_setCell_same (i := 0) h a') b') d') e') f') g'
theorem set6_own (x : World) (R : Nat) (a b d e f g : Value) : Turns (fun k => k = R) x (set6 x R a b d e f g) :=
  (set_own x R 0 a).setCell (p := ⟨R, 1, none⟩) rfl _ |>.setCell (p := ⟨R, 2, none⟩) rfl _ |>.setCell (p := ⟨R, 3, none⟩) rfl _ |>.setCell (p := ⟨R, 4, none⟩) rfl _ |>.setCell (p := ⟨R, 5, none⟩) rfl _
end
/-- What a part stands on whose result lies in a box: of any cells. -/
structure Hs (c : Ctx) (o : Nat) (x : World) (s : St) (cs : Array Value) (T : TypeId) (w : World) : Prop where
  rd : Rd c o s w
  res : w.heap[x.heap.size]? = some (.cells cs T (0, 0))
  turns : Turns (fun k => k = c.R) x w
  low : c.R < x.heap.size
section
variable {c : Ctx} {o : Nat} {x : World} {s s' : St} {cs : Array Value} {T : TypeId} {w y : World}
theorem Hs.lt (h : Hs c o x s cs T w) : x.heap.size < w.heap.size := (Array.getElem?_eq_some_iff.1 h.res).1
theorem Hs.turn (h : Hs c o x s cs T w) (hr : Rd c o s' y) (ht : Turns (fun k => k = c.R) w y) : Hs c o x s' cs T y :=
  ⟨hr, (ht.block _ h.lt (by have := h.low; omega)).trans h.res, h.turns.trans ht fun _ _ h => h, h.low⟩
theorem Hs.start (h : Rd c o s x) (cs : Array Value) (T : TypeId) : Hs c o x s cs T (x.alloc (.cells cs T)) :=
  ⟨h.below ((Below.refl _ _).alloc (Nat.le_refl _) _), heap_alloc_new x _, Turns.of_below ((Below.refl _ _).alloc (Nat.le_refl _) _), h.lt⟩
theorem Hs.fin (h : Hs c o x s cs T w) (ht : Turns (fun g => g = x.heap.size) w y) : Rd c o s y ∧ Turns (fun g => g = c.R) x y :=
  ⟨h.rd.turn ht fun g hg e => by have := h.low; omega, ⟨ht.os.trans h.turns.os, ht.tape.trans h.turns.tape, ht.output.trans h.turns.output, Nat.le_trans h.turns.size ht.size,
    fun k hk hn => (ht.block k (Nat.lt_of_lt_of_le hk h.turns.size) (by omega)).trans (h.turns.block k hk hn)⟩⟩
end
theorem row_al {w y : World} {B : Nat} {v : Value} {l : List Al} {F : Nat → Prop} (h : RowS allowE w B tAl v l) (ht : Turns F w y) (hF : ∀ g, F g → g < B) : RowS allowE y B tAl v l :=
  h.turn ht fun g hg _ e => by have := hF g e; omega
abbrev zR : Array Value := #[.string ⟨#[]⟩, .slice none 0 0, .int .i64 0, .string ⟨#[]⟩, .string ⟨#[]⟩, .slice none 0 0]
/-- What a relation is out of. -/
theorem rel_is {w : World} {B : Nat} {A : ByteArray} {l : List Al} {n : Nd} {ao no : Option Addr} {cap nc : Nat} (h1 : RowS allowE w (B + 1) tAl (.slice ao l.length cap) l) (h2 : NodeS (fun g => B + 1 ≤ g) w n (node4 n.kind n.ta n.tb (.slice no n.kids.length nc)))
    {y : World} (ht : Turns (fun g => g = B) w y) : RelS (fun g => B ≤ g) y ⟨A, l, n⟩ (relV ⟨A, l, n⟩ (.slice ao l.length cap) (.slice no n.kids.length nc)) :=
  ⟨ao, cap, no, nc, B + 1, rfl, row_al h1 ht fun g hg => by omega, fun k hk => by have := (h1.own_lt hk).1; omega, h2.turn ht (fun g hg _ e => by omega) fun g hg _ => by omega⟩
set_option maxHeartbeats 4000000 in
set_option maxRecDepth 100000 in
theorem rel_any {c : Ctx} {s : St} {x : World} (h : Rd c 0 s x) :
    Calls Tryd.prog 75 #[.pointer (some ⟨c.R, 0, none⟩)] x (Out relE c 0 (rel s) x) := by
  have hA := Hs.start h zR tRl
  have HW := Lib.hid (word_any hA.rd)
  have HA := Lib.hid hA
  have HQ := Lib.hid (show rel s = (⟨(word s).1, (allows (word s).2).1, (union (need (allows (word s).2).2 61)).1⟩, need (union (need (allows (word s).2).2 61)).2 59) from rfl)
  clear h hA
  generalize rel s = res at *
  generalize (word s).1 = A at *
  generalize (word s).2 = s1 at *
  go_enter Tryd.func75, Tryd.ntmps75
  go_wp2_with fail
  generalize x.alloc (.cells #[.string ⟨#[]⟩, .slice none 0 0, .int .i64 0, .string ⟨#[]⟩, .string ⟨#[]⟩, .slice none 0 0] 49) = w1 at *
  refine HW.out.mono ?_
  rintro e w2 ⟨rfl, h1, h2⟩
  have HA2 := Lib.hid (HA.out.turn h1 h2)
  have hT := take_any h1 91 (by decide)
  clear h1 h2 HW HA
  go_wp2_with fail
  by_cases h91 : next s1 = 91
  · have he : allows s1 = ((list allow 44 (tl s1)).1, need (list allow 44 (tl s1)).2 93) := if_pos h91
    rw [he] at HQ
    rw [if_pos h91, decide_eq_true h91] at hT
    have HT := Lib.hid hT
    clear hT h91 he
    refine HT.out.mono ?_
    rintro e w3 ⟨rfl, h1, h2⟩
    have HA3 := Lib.hid (HA2.out.turn h1 h2)
    have HLs := Lib.hid (listA_any (allow_part c) allow_fine (k := 44) (by decide) h1)
    clear h1 h2 HT HA2
    generalize tl s1 = s2 at *
    go_wp2_with fail
    refine HLs.out.mono ?_
    rintro e w4 ⟨v, rfl, hv, h1, h2⟩
    have hrow := hv.mono (C := x.heap.size + 1) (by have := HA3.out.lt; omega)
    obtain ⟨ao, cap, rfl⟩ := hv.slice
    have HA4 := Lib.hid (And.intro (HA3.out.turn h1 h2) hrow)
    have HN := Lib.hid (need_any h1 93 (by decide))
    clear hv hrow h1 h2 HLs HA3
    generalize list allow 44 s2 = r at *
    obtain ⟨l, s3'⟩ := r
    simp only at *
    go_wp2_with fail
    refine HN.out.mono ?_
    rintro e w4' ⟨rfl, h1, h2⟩
    have HA4' := Lib.hid (And.intro (HA4.out.1.turn h1 h2) (row_al HA4.out.2 h2 fun g hg => by have := HA4.out.1.low; omega))
    have HN2 := Lib.hid (need_any h1 61 (by decide))
    clear h1 h2 HN HA4
    have HA4 := HA4'
    clear HA4'
    generalize need s3' 93 = s3 at *
    have HQ2 := HQ
    clear HQ
    go_wp2_with fail
    refine HN2.out.mono ?_
    rintro e w5 ⟨rfl, h1, h2⟩
    have HA5 := Lib.hid (And.intro (HA4.out.1.turn h1 h2) (row_al HA4.out.2 h2 fun g hg => by have := HA4.out.1.low; omega))
    have HU := Lib.hid (union_at 8 0 rfl _ _ h1)
    clear h1 h2 HN2 HA4
    generalize need s3 61 = s4 at *
    go_wp2_with fail
    refine HU.out.mono ?_
    rintro e y ⟨v, rfl, hv, h1, h2⟩
    have hv' : NodeS (fun g => w5.heap.size ≤ g) y (union s4).1 v := hv
    obtain ⟨no, nc, us, rfl, -⟩ := hv'.open
    have al : Below y.heap.size y (y.alloc (.cells #[.int .i64 (union s4).1.kind, .string (union s4).1.ta, .string (union s4).1.tb, .slice no (union s4).1.kids.length nc] 25)) := (Below.refl _ _).alloc (Nat.le_refl _) _
    have h1' : Rd c 0 (union s4).2 y := h1
    have hA := (HA5.out.1.turn h1' h2).turn (h1'.below al) (Turns.of_below al)
    have hrow := row_al (row_al HA5.out.2 h2 fun g hg => by have := HA5.out.1.low; omega) (Turns.of_below (F := fun _ => False) al) fun g hg => hg.elim
    have hB : Bx x (union s4).1 y.heap.size (.slice no (union s4).1.kids.length nc) (y.alloc (.cells #[.int .i64 (union s4).1.kind, .string (union s4).1.ta, .string (union s4).1.tb, .slice no (union s4).1.kids.length nc] 25)) :=
      ⟨Box4.new y _ _ _ _, hv'.turn (Turns.of_below (F := fun _ => False) al) (fun _ _ _ h => h) fun g hg _ => by have := HA5.out.1.lt; omega, by have := h2.size; have := HA5.out.1.lt; omega⟩
    have HA6 := Lib.hid (And.intro hA (And.intro hrow hB))
    have HN3 := Lib.hid (need_any (h1'.below al) 59 (by decide))
    clear hv hv' h1 h1' h2 al hA hrow hB HU HA5
    generalize union s4 = r at *
    obtain ⟨n, s5⟩ := r
    simp only at *
    go_wp2_with fail
    generalize y.heap.size = R3 at *
    generalize y.alloc (.cells #[.int .i64 n.kind, .string n.ta, .string n.tb, .slice no n.kids.length nc] 25) = w6 at *
    clear y
    refine HN3.out.mono ?_
    rintro e w7 ⟨rfl, h1, h2⟩
    have hA := HA6.out.1.turn h1 h2
    have hB := HA6.out.2.2.turn HA6.out.1.low h2
    have hrow := row_al HA6.out.2.1 h2 fun g hg => by have := HA6.out.1.low; omega
    have hres : Box6 x.heap.size _ _ _ _ _ _ w7 := hA.res
    obtain ⟨d0, d1, d2, d3, d4, d5⟩ := hres.cells
    obtain ⟨f0, f1, f2, f3, f4, f5⟩ := hres.free
    obtain ⟨e0, e1, e2, e3⟩ := hB.box.cells
    have hset := set6_own w7 x.heap.size (.string A) (.slice ao l.length cap) (.int .i64 n.kind) (.string n.ta) (.string n.tb) (.slice no n.kids.length nc)
    have HF := Lib.hid (And.intro (rel_is (A := A) hrow hB.node hset) (hA.fin hset))
    have HG := Lib.hid (hres.set (.string A) (.slice ao l.length cap) (.int .i64 n.kind) (.string n.ta) (.string n.tb) (.slice no n.kids.length nc)).cells
    clear hA hB hrow hres hset HA6 HN3 h1 h2
    generalize need s5 59 = s6 at *
    go_wp2_with fail
    obtain ⟨g0, g1, g2, g3, g4, g5⟩ := HG.out
    unfold set6 at g0 g1 g2 g3 g4 g5
    exact bodyPost_ret (v := relV ⟨A, l, n⟩ (.slice ao l.length cap) (.slice no n.kids.length nc)) (by simp [results, Tryd.results75, go_sem, g0, g1, g2, g3, g4, g5]) rfl ⟨_, rfl, by rw [HQ2.out]; exact HF.out⟩
  · have he : allows s1 = ([], s1) := if_neg h91
    rw [he] at HQ
    rw [if_neg h91, decide_eq_false h91] at hT
    have HT := Lib.hid hT
    clear hT h91 he
    refine HT.out.mono ?_
    rintro e w4 ⟨rfl, h1, h2⟩
    have HA4 := Lib.hid (And.intro (HA2.out.turn h1 h2) (RowS.nil allowE w4 (x.heap.size + 1) tAl))
    have HN2 := Lib.hid (need_any h1 61 (by decide))
    clear h1 h2 HT HA2
    have HQ2 := HQ
    clear HQ
    generalize s1 = s3 at *
    go_wp2_with fail
    refine HN2.out.mono ?_
    rintro e w5 ⟨rfl, h1, h2⟩
    have HA5 := Lib.hid (And.intro (HA4.out.1.turn h1 h2) (row_al HA4.out.2 h2 fun g hg => by have := HA4.out.1.low; omega))
    have HU := Lib.hid (union_at 8 0 rfl _ _ h1)
    clear h1 h2 HN2 HA4
    generalize need s3 61 = s4 at *
    go_wp2_with fail
    refine HU.out.mono ?_
    rintro e y ⟨v, rfl, hv, h1, h2⟩
    have hv' : NodeS (fun g => w5.heap.size ≤ g) y (union s4).1 v := hv
    obtain ⟨no, nc, us, rfl, -⟩ := hv'.open
    have al : Below y.heap.size y (y.alloc (.cells #[.int .i64 (union s4).1.kind, .string (union s4).1.ta, .string (union s4).1.tb, .slice no (union s4).1.kids.length nc] 25)) := (Below.refl _ _).alloc (Nat.le_refl _) _
    have h1' : Rd c 0 (union s4).2 y := h1
    have hA := (HA5.out.1.turn h1' h2).turn (h1'.below al) (Turns.of_below al)
    have hrow := row_al (row_al HA5.out.2 h2 fun g hg => by have := HA5.out.1.low; omega) (Turns.of_below (F := fun _ => False) al) fun g hg => hg.elim
    have hB : Bx x (union s4).1 y.heap.size (.slice no (union s4).1.kids.length nc) (y.alloc (.cells #[.int .i64 (union s4).1.kind, .string (union s4).1.ta, .string (union s4).1.tb, .slice no (union s4).1.kids.length nc] 25)) :=
      ⟨Box4.new y _ _ _ _, hv'.turn (Turns.of_below (F := fun _ => False) al) (fun _ _ _ h => h) fun g hg _ => by have := HA5.out.1.lt; omega, by have := h2.size; have := HA5.out.1.lt; omega⟩
    have HA6 := Lib.hid (And.intro hA (And.intro hrow hB))
    have HN3 := Lib.hid (need_any (h1'.below al) 59 (by decide))
    clear hv hv' h1 h1' h2 al hA hrow hB HU HA5
    generalize union s4 = r at *
    obtain ⟨n, s5⟩ := r
    simp only at *
    go_wp2_with fail
    generalize y.heap.size = R3 at *
    generalize y.alloc (.cells #[.int .i64 n.kind, .string n.ta, .string n.tb, .slice no n.kids.length nc] 25) = w6 at *
    clear y
    refine HN3.out.mono ?_
    rintro e w7 ⟨rfl, h1, h2⟩
    have hA := HA6.out.1.turn h1 h2
    have hB := HA6.out.2.2.turn HA6.out.1.low h2
    have hrow := row_al HA6.out.2.1 h2 fun g hg => by have := HA6.out.1.low; omega
    have hres : Box6 x.heap.size _ _ _ _ _ _ w7 := hA.res
    obtain ⟨d0, d1, d2, d3, d4, d5⟩ := hres.cells
    obtain ⟨f0, f1, f2, f3, f4, f5⟩ := hres.free
    obtain ⟨e0, e1, e2, e3⟩ := hB.box.cells
    have hset := set6_own w7 x.heap.size (.string A) (.slice none 0 0) (.int .i64 n.kind) (.string n.ta) (.string n.tb) (.slice no n.kids.length nc)
    have HF := Lib.hid (And.intro (rel_is (A := A) hrow hB.node hset) (hA.fin hset))
    have HG := Lib.hid (hres.set (.string A) (.slice none 0 0) (.int .i64 n.kind) (.string n.ta) (.string n.tb) (.slice no n.kids.length nc)).cells
    clear hA hB hrow hres hset HA6 HN3 h1 h2
    generalize need s5 59 = s6 at *
    go_wp2_with fail
    obtain ⟨g0, g1, g2, g3, g4, g5⟩ := HG.out
    unfold set6 at g0 g1 g2 g3 g4 g5
    exact bodyPost_ret (v := relV ⟨A, [], n⟩ (.slice none 0 0) (.slice no n.kids.length nc)) (by simp [results, Tryd.results75, go_sem, g0, g1, g2, g3, g4, g5]) rfl ⟨_, rfl, by rw [HQ2.out]; exact HF.out⟩
theorem enter_rel : ∀ args W, (callFunc 75 args).run Tryd.prog W = .ok (.enter 75 args) W := fun args W => by kernel_rfl
theorem rel_part (c : Ctx) : Part relE c 0 75 rel := ⟨enter_rel, fun _ _ h => rel_any h⟩

theorem ty_is {w : World} {B : Nat} {A : ByteArray} {l : List Rl} {ao : Option Addr} {cap : Nat} (h1 : RowS relE w (B + 1) tRl (.slice ao l.length cap) l)
    {y : World} (ht : Turns (fun g => g = B) w y) : TyS (fun g => B ≤ g) y ⟨A, l⟩ (tyV ⟨A, l⟩ (.slice ao l.length cap)) := by
  have h2 : RowS relE y (B + 1) tRl (.slice ao l.length cap) l := h1.turn ht fun g hg _ e => by omega
  obtain ⟨vs, o1, o2, o3⟩ := h2
  exact ⟨ao, cap, vs, B + 1, rfl, o1, o2, fun k hk => by have := (o1.lt k hk).1; omega, fun i a u hi hu => Elt.mono (E := relE) (o3 i a u hi hu) fun g hg _ => by have := hg.1; omega⟩
set_option maxHeartbeats 4000000 in
set_option maxRecDepth 100000 in
theorem typ_any {c : Ctx} {s : St} {x : World} (h : Rd c 0 s x) :
    Calls Tryd.prog 51 #[.pointer (some ⟨c.R, 0, none⟩)] x (Out tyE c 0 (typ s) x) := by
  have hA := Hs.start h #[.string ⟨#[]⟩, .slice none 0 0] tTy
  have HW := Lib.hid (word_any hA.rd)
  have HA := Lib.hid hA
  have HQ := Lib.hid (show typ s = (⟨(word s).1, (eachs rel 3 (need (word s).2 123)).1⟩, need (eachs rel 3 (need (word s).2 123)).2 125) from rfl)
  clear h hA
  generalize typ s = res at *
  generalize (word s).1 = A at *
  generalize (word s).2 = s1 at *
  go_enter Tryd.func51, Tryd.ntmps51
  go_wp2_with fail
  generalize x.alloc (.cells #[.string ⟨#[]⟩, .slice none 0 0] 46) = w1 at *
  refine HW.out.mono ?_
  rintro e w2 ⟨rfl, h1, h2⟩
  have HA2 := Lib.hid (HA.out.turn h1 h2)
  have HN := Lib.hid (need_any h1 123 (by decide))
  clear h1 h2 HW HA
  go_wp2_with fail
  refine HN.out.mono ?_
  rintro e w3 ⟨rfl, h1, h2⟩
  have HA3 := Lib.hid (HA2.out.turn h1 h2)
  have HE := Lib.hid (eachR_any (rel_part c) rel_fine (k := 3) (by decide) h1)
  clear h1 h2 HN HA2
  generalize need s1 123 = s2 at *
  go_wp2_with fail
  refine HE.out.mono ?_
  rintro e w4 ⟨v, rfl, hv, h1, h2⟩
  have hrow := hv.mono (C := x.heap.size + 1) (by have := HA3.out.lt; omega)
  obtain ⟨ao, cap, rfl⟩ := hv.slice
  have HA4 := Lib.hid (And.intro (HA3.out.turn h1 h2) hrow)
  have HN2 := Lib.hid (need_any h1 125 (by decide))
  clear hv hrow h1 h2 HE HA3
  generalize eachs rel 3 s2 = r at *
  obtain ⟨l, s3⟩ := r
  simp only at *
  go_wp2_with fail
  refine HN2.out.mono ?_
  rintro e w5 ⟨rfl, h1, h2⟩
  have hA := HA4.out.1.turn h1 h2
  have hrow := HA4.out.2.turn h2 fun g hg _ e => by have := HA4.out.1.low; omega
  have hres := hA.res
  have d0 : w5.cell? ⟨x.heap.size, 0, none⟩ = some (.string ⟨#[]⟩) := by rw [Lib.cell_of_heap hres]; rfl
  have d1 : w5.cell? ⟨x.heap.size, 1, none⟩ = some (.slice none 0 0) := by rw [Lib.cell_of_heap hres]; rfl
  have f0 : w5.frozen? ⟨x.heap.size, 0, none⟩ = false := Lib.frozen_of_heap hres 0
  have f1 : w5.frozen? ⟨x.heap.size, 1, none⟩ = false := Lib.frozen_of_heap hres 1
  have hset : Turns (fun g => g = x.heap.size) w5 ((w5.setCell ⟨x.heap.size, 0, none⟩ (.string A)).setCell ⟨x.heap.size, 1, none⟩ (.slice ao l.length cap)) := (set_own w5 x.heap.size 0 _).setCell (p := ⟨x.heap.size, 1, none⟩) rfl _
  have hres2 := Lib.heap_setCell_same (i := 1) (Lib.heap_setCell_same (i := 0) hres (.string A)) (.slice ao l.length cap)
  have g0 : ((w5.setCell ⟨x.heap.size, 0, none⟩ (.string A)).setCell ⟨x.heap.size, 1, none⟩ (.slice ao l.length cap)).cell? ⟨x.heap.size, 0, none⟩ = some (.string A) := by rw [Lib.cell_of_heap hres2]; rfl
  have g1 : ((w5.setCell ⟨x.heap.size, 0, none⟩ (.string A)).setCell ⟨x.heap.size, 1, none⟩ (.slice ao l.length cap)).cell? ⟨x.heap.size, 1, none⟩ = some (.slice ao l.length cap) := by rw [Lib.cell_of_heap hres2]; rfl
  have HF := Lib.hid (And.intro (ty_is (A := A) hrow hset) (hA.fin hset))
  have HG := Lib.hid (And.intro g0 g1)
  clear hA hrow hres hres2 hset g0 g1 HA4 HN2 h1 h2
  generalize need s3 125 = s6 at *
  go_wp2_with fail
  obtain ⟨g0, g1⟩ := HG.out
  exact bodyPost_ret (v := tyV ⟨A, l⟩ (.slice ao l.length cap)) (by simp [results, Tryd.results51, go_sem, g0, g1]) rfl ⟨_, rfl, by rw [HQ.out]; exact HF.out⟩
theorem enter_typ : ∀ args W, (callFunc 51 args).run Tryd.prog W = .ok (.enter 51 args) W := fun args W => by kernel_rfl
theorem typ_part (c : Ctx) : Part tyE c 0 51 typ := ⟨enter_typ, fun _ _ h => typ_any h⟩

/-- A configuration that lies in memory. -/
def CfS (w : World) (B : Nat) (l : List Ty) (v : Value) : Prop := ∃ ao cap, v = .agg #[.slice ao l.length cap] ∧ RowS tyE w B tTy (.slice ao l.length cap) l
set_option maxHeartbeats 4000000 in
set_option maxRecDepth 100000 in
theorem config_any {c : Ctx} {s : St} {x : World} (h : Rd c 0 s x) :
    Calls Tryd.prog 25 #[.pointer (some ⟨c.R, 0, none⟩)] x fun e y => ∃ v, e = .returned v ∧ CfS y x.heap.size (config s).1 v ∧ Rd c 0 (config s).2 y ∧ Turns (fun k => k = c.R) x y := by
  have hA := Hs.start h #[.slice none 0 0] tCf
  have HE := Lib.hid (eachT_any (typ_part c) typ_fine (k := 2) (by decide) hA.rd)
  have HA := Lib.hid hA
  clear h hA
  have HQ := Lib.hid (show config s = eachs typ 2 s from rfl)
  generalize config s = res at *
  go_enter Tryd.func25, Tryd.ntmps25
  go_wp2_with fail
  generalize x.alloc (.cells #[.slice none 0 0] 38) = w1 at *
  refine HE.out.mono ?_
  rintro e w4 ⟨v, rfl, hv, h1, h2⟩
  have hrow := hv.mono (C := x.heap.size + 1) (by have := HA.out.lt; omega)
  obtain ⟨ao, cap, rfl⟩ := hv.slice
  have hA := HA.out.turn h1 h2
  clear hv HE HA h1 h2
  generalize eachs typ 2 s = r at *
  obtain ⟨l, s3⟩ := r
  simp only at *
  have hres := hA.res
  have d0 : w4.cell? ⟨x.heap.size, 0, none⟩ = some (.slice none 0 0) := by rw [Lib.cell_of_heap hres]; rfl
  have f0 : w4.frozen? ⟨x.heap.size, 0, none⟩ = false := Lib.frozen_of_heap hres 0
  have hset := set_own w4 x.heap.size 0 (.slice ao l.length cap)
  have hres2 := Lib.heap_setCell_same (i := 0) hres (.slice ao l.length cap)
  have g0 : (w4.setCell ⟨x.heap.size, 0, none⟩ (.slice ao l.length cap)).cell? ⟨x.heap.size, 0, none⟩ = some (.slice ao l.length cap) := by rw [Lib.cell_of_heap hres2]; rfl
  have HF := Lib.hid (And.intro (show CfS _ x.heap.size l (.agg #[.slice ao l.length cap]) from ⟨ao, cap, rfl, (hrow.turn hset fun g hg _ e => by omega).mono (Nat.le_succ _)⟩) (hA.fin hset))
  have HG := Lib.hid g0
  clear hA hrow hres hres2 hset g0
  go_wp2_with fail
  have g0 := HG.out
  exact bodyPost_ret (v := .agg #[.slice ao l.length cap]) (by simp [results, Tryd.results25, go_sem, g0]) rfl ⟨_, rfl, by rw [HQ.out]; exact HF.out⟩
end Gr
end Go.Proofs.YtbphmaoomnocmaaDoor
