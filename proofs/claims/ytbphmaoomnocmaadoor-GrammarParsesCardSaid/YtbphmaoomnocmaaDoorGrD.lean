/-
  Layer 7's document: its state; kind, take.
-/
import Derived.Test.YtbphmaoomnocmaaDoorGrPart
import Derived.Test.YtbphmaoomnocmaaDoorGrJoin
namespace Go.Proofs.YtbphmaoomnocmaaDoor
open Go.RowKit
namespace Gr
open Knot (Turns NewRow)
open Tr (Nd none0 node4 own_slice Box4)
open Sg (Tok kt TokAt txt)

/-- What the document's parts stand on: the tokens and their block. -/
structure DCtx where
  ao : Option Addr
  cap : Nat
  G : Nat
  L : List Tok
/-- A state's number of tokens read. -/
def atN (c : DCtx) (s : St) : Nat := c.L.length - s.rest.length
abbrev stV (c : DCtx) (o : Nat) (s : St) : Value := .agg #[.slice c.ao c.L.length c.cap, .int .i64 (atN c s : Nat), .int .i64 (o : Nat), .int .i64 (s.err : Nat)]
structure DEnv (c : DCtx) (x : World) : Prop where
  len : c.L.length ≤ 10000
  short : Short (kt c.L)
  toks : ∀ j (h : j < c.L.length), c.ao = some ⟨c.G, 0, none⟩ ∧ c.G < x.heap.size ∧ TokAt x c.G (j * 4) c.L[j]
  kinds : ∀ t ∈ c.L, t.kind ≠ 0
theorem DEnv.below {c : DCtx} {x y : World} (h : DEnv c x) (hb : Below x.heap.size x y) : DEnv c y :=
  ⟨h.len, h.short, fun j hj => ⟨(h.toks j hj).1, Nat.lt_of_lt_of_le (h.toks j hj).2.1 hb.size, (h.toks j hj).2.2.on (h.toks j hj).2.1 hb⟩, h.kinds⟩
/-- A box of a state. -/
def DB (R : Nat) (c : DCtx) (at' o er : Nat) (x : World) : Prop := x.heap[R]? = some (.cells #[.slice c.ao c.L.length c.cap, .int .i64 (at' : Nat), .int .i64 (o : Nat), .int .i64 (er : Nat)] 64 (0, 0))
section
variable {R : Nat} {c : DCtx} {a o er : Nat} {x y : World}
theorem DB.lt (h : DB R c a o er x) : R < x.heap.size := (Array.getElem?_eq_some_iff.1 h).1
theorem DB.cells (h : DB R c a o er x) : x.cell? ⟨R, 0, none⟩ = some (.slice c.ao c.L.length c.cap) ∧ x.cell? ⟨R, 1, none⟩ = some (.int .i64 (a : Nat)) ∧ x.cell? ⟨R, 2, none⟩ = some (.int .i64 (o : Nat)) ∧ x.cell? ⟨R, 3, none⟩ = some (.int .i64 (er : Nat)) :=
  ⟨by rw [Lib.cell_of_heap h]; rfl, by rw [Lib.cell_of_heap h]; rfl, by rw [Lib.cell_of_heap h]; rfl, by rw [Lib.cell_of_heap h]; rfl⟩
theorem DB.free (h : DB R c a o er x) : x.frozen? ⟨R, 0, none⟩ = false ∧ x.frozen? ⟨R, 1, none⟩ = false ∧ x.frozen? ⟨R, 2, none⟩ = false ∧ x.frozen? ⟨R, 3, none⟩ = false := ⟨Lib.frozen_of_heap h 0, Lib.frozen_of_heap h 1, Lib.frozen_of_heap h 2, Lib.frozen_of_heap h 3⟩
theorem DB.new (w : World) (c : DCtx) (a o er : Nat) : DB w.heap.size c a o er (w.alloc (.cells #[.slice c.ao c.L.length c.cap, .int .i64 (a : Nat), .int .i64 (o : Nat), .int .i64 (er : Nat)] 64)) := heap_alloc_new w _
theorem DB.on (h : DB R c a o er x) (hb : Below x.heap.size x y) : DB R c a o er y := (hb.block R h.lt).trans h
theorem DB.put1 (h : DB R c a o er x) (a' : Nat) : DB R c a' o er (x.setCell ⟨R, 1, none⟩ (.int .i64 (a' : Nat))) := Lib.heap_setCell_same (i := 1) h _
theorem DB.put2 (h : DB R c a o er x) (o' : Nat) : DB R c a o' er (x.setCell ⟨R, 2, none⟩ (.int .i64 (o' : Nat))) := Lib.heap_setCell_same (i := 2) h _
theorem DB.put3 (h : DB R c a o er x) (e' : Nat) : DB R c a o e' (x.setCell ⟨R, 3, none⟩ (.int .i64 (e' : Nat))) := Lib.heap_setCell_same (i := 3) h _
/-- A whole state is stored. -/
def setS (x : World) (R : Nat) (c : DCtx) (a o er : Nat) : World := (((x.setCell ⟨R, 0, none⟩ (.slice c.ao c.L.length c.cap)).setCell ⟨R, 1, none⟩ (.int .i64 (a : Nat))).setCell ⟨R, 2, none⟩ (.int .i64 (o : Nat))).setCell ⟨R, 3, none⟩ (.int .i64 (er : Nat))
theorem DB.set {v0 v1 v2 v3 : Value} {T : TypeId} (h : x.heap[R]? = some (.cells #[v0, v1, v2, v3] T (0, 0))) (c : DCtx) (a o er : Nat) : (setS x R c a o er).heap[R]? = some (.cells #[.slice c.ao c.L.length c.cap, .int .i64 (a : Nat), .int .i64 (o : Nat), .int .i64 (er : Nat)] T (0, 0)) :=
  Lib.heap_setCell_same (i := 3) (Lib.heap_setCell_same (i := 2) (Lib.heap_setCell_same (i := 1) (Lib.heap_setCell_same (i := 0) h _) _) _) _
theorem setS_below {B : Nat} {w x : World} (h : Below B w x) {R : Nat} (hR : B ≤ R) (c : DCtx) (a o er : Nat) : Below B w (setS x R c a o er) :=
  (((h.setCell (p := ⟨R, 0, none⟩) hR _).setCell (p := ⟨R, 1, none⟩) hR _).setCell (p := ⟨R, 2, none⟩) hR _).setCell (p := ⟨R, 3, none⟩) hR _
theorem setS_own (x : World) (R : Nat) (c : DCtx) (a o er : Nat) : Turns (fun g => g = R) x (setS x R c a o er) :=
  ((Turns.refl (fun g => g = R) x).setCell (p := ⟨R, 0, none⟩) rfl _).setCell (p := ⟨R, 1, none⟩) rfl _ |>.setCell (p := ⟨R, 2, none⟩) rfl _ |>.setCell (p := ⟨R, 3, none⟩) rfl _
end
theorem elemD : Tryd.prog.underlying 60 = some (.slice (Tryd.prog.elem 60)) := by kernel_rfl
theorem sizeD : ∀ w, (sizeOf (Tryd.prog.elem 60)).run Tryd.prog w = .ok 4 w := fun w => by kernel_rfl
theorem index_dtok {g n cap : Nat} {j : Nat} (hj : j < n) (W : World) : (Instr.indexAt 60 (.slice (some ⟨g, 0, none⟩) n cap) (.int .i64 (j : Int))).run Tryd.prog W = .ok (.pointer (some ⟨g, j * 4, none⟩)) W := by
  rw [run_indexAt_slice W _ _ _ _ _ _ elemD, if_pos ⟨by omega, by omega⟩, sizeD]
  have e : ((j : Int)).toNat = j := by omega
  simp only [Result.andThen_ok, e, Addr.add_lit, Nat.zero_add]
/-- The first token that is left. -/
theorem dhead {c : DCtx} {s : St} (h : s.rest <:+ kt c.L) {t : K} {r : List K} (hr : s.rest = t :: r) : ∃ (hj : atN c s < c.L.length), (c.L[atN c s].kind, c.L[atN c s].text) = t := by
  obtain ⟨p, hp⟩ := h
  have hl : (kt c.L).length = c.L.length := Sg.kt_len _
  have hlen : p.length + s.rest.length = c.L.length := by rw [← hl, ← hp, List.length_append]
  have hs : 1 ≤ s.rest.length := by rw [hr]; simp
  refine ⟨by unfold atN; omega, ?_⟩
  have h1 : (kt c.L)[p.length]? = some t := by rw [← hp, hr]; simp
  have h2 : atN c s = p.length := by unfold atN; omega
  rw [kt, List.getElem?_map, List.getElem?_eq_getElem (by omega)] at h1
  simp only [h2]
  exact Option.some.inj h1
theorem dlen {c : DCtx} {s : St} (h : s.rest <:+ kt c.L) : s.rest.length ≤ c.L.length := by have := h.length_le; rwa [Sg.kt_len] at this
theorem at_tl {c : DCtx} {s : St} (h : s.rest <:+ kt c.L) (hn : next s ≠ 0) : atN c (tl s) = atN c s + 1 := by
  have h1 := tl_len hn
  have h2 := dlen h
  unfold atN
  omega
/-- A state at its end. -/
theorem at_end {c : DCtx} {s : St} (h : s.rest = []) : atN c s = c.L.length := by unfold atN; rw [h]; rfl
set_option maxHeartbeats 1000000 in
set_option maxRecDepth 100000 in
theorem dkind_any {c : DCtx} {o : Nat} {s : St} {x : World} (h : DEnv c x) (hs : s.rest <:+ kt c.L) : Calls Tryd.prog 49 #[stV c o s] x fun e y => e = .returned (.int .i64 (next s)) ∧ Below x.heap.size x y := by
  have al : Below x.heap.size x (x.alloc (.cells #[.slice c.ao c.L.length c.cap, .int .i64 (atN c s : Nat), .int .i64 (o : Nat), .int .i64 (s.err : Nat)] 64)) := (Below.refl _ _).alloc (Nat.le_refl _) _
  have hb := DB.new x c (atN c s) o s.err
  obtain ⟨c0, c1, c2, c3⟩ := hb.cells
  have h2 := dlen hs
  have HB := Lib.hid al
  show Calls _ _ #[.agg #[.slice c.ao c.L.length c.cap, .int .i64 (atN c s : Nat), .int .i64 (o : Nat), .int .i64 (s.err : Nat)]] _ _
  by_cases he : s.err = 0
  · cases hr : s.rest with
    | nil =>
      have hx : next s = 0 := by rw [next, if_pos he, hr]; rfl
      have ha : atN c s = c.L.length := at_end hr
      rw [hx]
      clear h hs hb hr hx al h2
      generalize s.err = er at *
      subst he
      generalize atN c s = j at *
      subst ha
      generalize c.L.length = n at *
      go_enter Tryd.func49, Tryd.ntmps49
      go_wp2_with fail
      go_ret
      exact ⟨rfl, HB.out⟩
    | cons t r =>
      obtain ⟨hj, ht⟩ := dhead hs hr
      obtain ⟨hao, hG, k0, -⟩ := h.toks _ hj
      have hGn : ¬ c.G = x.heap.size := by omega
      have hx : next s = t.1 := by rw [next, if_pos he, hr]; rfl
      rw [hx]
      have ht1 := congrArg Prod.fst ht
      simp only at ht1
      rw [ht1] at k0
      have hix := index_dtok (g := c.G) (cap := c.cap) hj
      have e2 : decide ((c.L.length : Int) ≤ (atN c s : Int)) = false := by simp; omega
      have e3 : decide (c.L.length ≤ atN c s) = false := by simp; omega
      clear h hs hb hr hx ht ht1 al h2
      generalize s.err = er at *
      subst he
      generalize atN c s = j at *
      rw [hao] at *
      clear hao
      have hjn : ¬ c.L.length ≤ j := by omega
      clear hj
      generalize c.L.length = n at *
      go_enter Tryd.func49, Tryd.ntmps49
      go_wp2_with fail
      go_ret
      exact ⟨rfl, HB.out⟩
  · have hx : next s = 0 := if_neg he
    rw [hx]
    have e1 : ((s.err : Int) != 0) = true := by simp; omega
    clear h hs hb hx al h2 he
    generalize atN c s = j at *
    generalize s.err = er at *
    generalize c.L.length = n at *
    go_enter Tryd.func49, Tryd.ntmps49
    go_wp2_with fail
    go_ret
    exact ⟨rfl, HB.out⟩
/-- The document's take: what it tells of the token. -/
def tk (s : St) (k : Int) : ByteArray := if next s = k then headT s.rest else none0
theorem word_tk (s : St) : word s = (tk s 1, need s 1) := by
  rw [word, tk, need]
  split
  · rfl
  · rfl
theorem fail_at (c : DCtx) (s : St) (e : Nat) : atN c (fail s e) = atN c s := by unfold atN; rw [fail_rest]
theorem need_at {c : DCtx} {s : St} (h : s.rest <:+ kt c.L) {k : Int} (hk : k ≠ 0) : atN c (need s k) = if next s = k then atN c s + 1 else atN c s := by
  rw [need]
  split
  · rename_i hn
    exact at_tl h (by rw [hn]; exact hk)
  · exact fail_at c s 11
theorem stV_eq {c : DCtx} {o : Nat} {s : St} {a e : Nat} (h1 : atN c s = a) (h2 : s.err = e) : stV c o s = .agg #[.slice c.ao c.L.length c.cap, .int .i64 (a : Nat), .int .i64 (o : Nat), .int .i64 (e : Nat)] := by rw [← h1, ← h2]
/-- What take answers. -/
def TkOut (c : DCtx) (o : Nat) (s : St) (v : ByteArray) (x : World) (e : Ending) (y : World) : Prop := e = .returned (.tuple #[stV c o s, .string v]) ∧ Below x.heap.size x y
end Gr
end Go.Proofs.YtbphmaoomnocmaaDoor
