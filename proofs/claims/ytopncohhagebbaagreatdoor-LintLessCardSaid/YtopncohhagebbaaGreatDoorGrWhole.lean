/-
  Layer 7 (grammar): whole; Expr, Parse. Written by gen/mk_gw.py and ord.py.
-/
import Derived.Test.YtopncohhagebbaaGreatDoorGrAt
import Derived.Test.YtopncohhagebbaaGreatDoorMgMem
import Derived.RegionTactic
import Derived.BigRegion
namespace Go.Proofs.YtopncohhagebbaaGreatDoor
open Go.RowKit
namespace Gr
open Knot (Turns NewRow)
open Tr (Nd none0 node4 own_slice Box4)
open Sg (Tok kt plV TokAt LexOut PlB)

structure Glob (a0 a1 : Addr) (w : World) : Prop where
  g0 : w.cell? ⟨0, 0, none⟩ = some (sent a0)
  g1 : w.cell? ⟨1, 0, none⟩ = some (sent a1)
  b0 : ∃ ca ta, w.heap[a0.block]? = some (.cells ca ta (0, 0))
  b1 : ∃ ca ta, w.heap[a1.block]? = some (.cells ca ta (0, 0))
  ne : a0 ≠ a1
theorem Glob.below {a0 a1 : Addr} {w x : World} (h : Glob a0 a1 w) (hb : Below w.heap.size w x) : Glob a0 a1 x :=
  ⟨(hb.cell (p := ⟨0, 0, none⟩) (World.block_lt_of_cell? w _ h.g0)).trans h.g0, (hb.cell (p := ⟨1, 0, none⟩) (World.block_lt_of_cell? w _ h.g1)).trans h.g1,
    (by obtain ⟨ca, ta, hc⟩ := h.b0; exact ⟨ca, ta, (hb.block _ (Array.getElem?_eq_some_iff.1 hc).1).trans hc⟩), (by obtain ⟨ca, ta, hc⟩ := h.b1; exact ⟨ca, ta, (hb.block _ (Array.getElem?_eq_some_iff.1 hc).1).trans hc⟩), h.ne⟩
abbrev tPl : TypeId := 73
structure Wz (w : World) (zc : Array Value) (T : TypeId) (x : World) : Prop where
  a : x.heap[w.heap.size]? = some (.cells zc T (0, 0))
  p : x.heap[w.heap.size + 1]? = some (.cells #[.int .i64 0, .int .i64 0] tPl (0, 0))
  z : x.heap[w.heap.size + 1 + 1]? = some (.cells zc T (0, 0))
  below : Below w.heap.size w x
theorem Wz.lt {w : World} {zc : Array Value} {T : TypeId} {x : World} (h : Wz w zc T x) : w.heap.size + 2 < x.heap.size := (Array.getElem?_eq_some_iff.1 h.z).1
theorem Wz.turn {w : World} {zc : Array Value} {T : TypeId} {x y : World} {F : Nat → Prop} (h : Wz w zc T x) (ht : Turns F x y) (hF : ∀ k, F k → w.heap.size + 3 ≤ k) : Wz w zc T y :=
  ⟨ht.heap h.a fun e => by have := hF _ e; omega, ht.heap h.p fun e => by have := hF _ e; omega, ht.heap h.z fun e => by have := hF _ e; omega,
    h.below.trans (ht.below h.below.size fun k hk => by have := hF k hk; omega)⟩
theorem Wz.on {w : World} {zc : Array Value} {T : TypeId} {x y : World} (h : Wz w zc T x) (hb : Below x.heap.size x y) : Wz w zc T y := h.turn (Turns.of_below (F := fun _ => False) hb) fun _ h => h.elim
theorem Wz.start (w : World) (zc : Array Value) (T : TypeId) : Wz w zc T (((w.alloc (.cells zc T)).alloc (.cells #[.int .i64 0, .int .i64 0] tPl)).alloc (.cells zc T)) := by
  have b1 : Below w.heap.size w (w.alloc (.cells zc T)) := (Below.refl _ _).alloc (Nat.le_refl _) _
  have s1 : (w.alloc (.cells zc T)).heap.size = w.heap.size + 1 := by simp
  have b2 : Below (w.heap.size + 1) (w.alloc (.cells zc T)) ((w.alloc (.cells zc T)).alloc (.cells #[.int .i64 0, .int .i64 0] tPl)) := (Below.refl _ _).alloc (by omega) _
  have s2 : ((w.alloc (.cells zc T)).alloc (.cells #[.int .i64 0, .int .i64 0] tPl)).heap.size = w.heap.size + 1 + 1 := by simp
  have b3 : Below (w.heap.size + 1 + 1) ((w.alloc (.cells zc T)).alloc (.cells #[.int .i64 0, .int .i64 0] tPl)) (((w.alloc (.cells zc T)).alloc (.cells #[.int .i64 0, .int .i64 0] tPl)).alloc (.cells zc T)) := (Below.refl _ _).alloc (by omega) _
  have n1 := heap_alloc_new w (.cells zc T)
  have n2 := heap_alloc_new (w.alloc (.cells zc T)) (.cells #[.int .i64 0, .int .i64 0] tPl)
  have n3 := heap_alloc_new ((w.alloc (.cells zc T)).alloc (.cells #[.int .i64 0, .int .i64 0] tPl)) (.cells zc T)
  rw [s1] at n2
  rw [s2] at n3
  exact ⟨(b3.block _ (by omega)).trans ((b2.block _ (by omega)).trans n1), (b3.block _ (by omega)).trans n2, n3, (b1.trans (b2.mono (by omega))).trans (b3.mono (by omega))⟩
structure Wh (w : World) (zc : Array Value) (T : TypeId) (c : Ctx) (s : St) (x : World) : Prop where
  base : Wz w zc T x
  rd : Rd c 0 s x
  low : w.heap.size + 3 ≤ c.R
theorem Wh.turn {w : World} {zc : Array Value} {T : TypeId} {c : Ctx} {s s' : St} {x y : World} (h : Wh w zc T c s x) (hr : Rd c 0 s' y) (ht : Turns (fun k => k = c.R) x y) : Wh w zc T c s' y :=
  ⟨h.base.turn ht fun k hk => by have := h.low; omega, hr, h.low⟩
theorem start_rd {a0 a1 : Addr} {w : World} {l : List Tok} {e : Nat × Nat} {ao : Option Addr} {cap B : Nat} (hg : Glob a0 a1 w) (ho : w.ownsRow B 189 4 (.slice ao l.length cap) l.length (Sg.toksC l)) (hl : l.length ≤ 6000) (ht : ∀ t ∈ l, t.text.length ≤ 6000 ∧ t.kind ≠ 0) :
    ∃ c : Ctx, c.R = w.heap.size ∧ c.L = l ∧ c.e = e ∧ c.a0 = a0 ∧ c.a1 = a1 ∧ Rd c 0 ⟨kt l, 0⟩ (w.alloc (.cells #[.slice ao l.length cap, .int .i64 (e.1 : Nat), .int .i64 (e.2 : Nat), .int .i64 0, .nilIface] 159)) := by
  have al : Below w.heap.size w (w.alloc (.cells #[.slice ao l.length cap, .int .i64 (e.1 : Nat), .int .i64 (e.2 : Nat), .int .i64 0, .nilIface] 159)) := (Below.refl _ _).alloc (Nat.le_refl _) _
  have hG := hg.below al
  have hkl : (kt l).length = l.length := Sg.kt_len l
  have hcap : l.length ≤ cap := by
    rcases ho.2 with ⟨h, h0⟩ | ⟨g, cap', cur, h, -, -, hc, -⟩
    · obtain ⟨-, h1, rfl⟩ : ao = none ∧ l.length = 0 ∧ cap = 0 := by simpa using h
      omega
    · obtain ⟨-, rfl⟩ : ao = some ⟨g, 0, none⟩ ∧ cap = cap' := by simpa using h
      exact hc
  have n0 := World.block_lt_of_cell? w _ hg.g0
  have n1 := World.block_lt_of_cell? w _ hg.g1
  have m0 : a0.block < w.heap.size := by obtain ⟨ca, ta, hc⟩ := hg.b0; exact (Array.getElem?_eq_some_iff.1 hc).1
  have m1 : a1.block < w.heap.size := by obtain ⟨ca, ta, hc⟩ := hg.b1; exact (Array.getElem?_eq_some_iff.1 hc).1
  have key : ∃ G, G < w.heap.size ∧ (l ≠ [] → ao = some ⟨G, 0, none⟩) ∧ ∀ j (h : j < l.length), TokAt w G (j * 4) l[j] := by
    by_cases hn : l = []
    · subst hn
      exact ⟨a0.block, m0, fun h => absurd rfl h, fun j h => by simp at h⟩
    · obtain ⟨g, cap', hv, -, hgl, hT⟩ := Sg.toks_open ho hn
      obtain ⟨rfl, -⟩ : ao = some ⟨g, 0, none⟩ ∧ _ := by simpa using hv
      exact ⟨g, hgl, fun _ => rfl, hT⟩
  obtain ⟨G, hGl, hao, hT⟩ := key
  refine ⟨⟨w.heap.size, G, l, e, a0, a1⟩, rfl, rfl, rfl, rfl, rfl, ⟨⟨ao, cap, ?_, ?_, fun hne => ?_⟩, List.suffix_refl _, ⟨hG.g0, hG.g1, n0, n1, hGl, hG.b0, hG.b1, m0, m1, hg.ne, fun j hj => ⟨by have := al.size; simp only; omega, (hT j hj).on hGl al⟩, by simp only; omega, fun t ht' => ?_⟩⟩⟩
  · have := heap_alloc_new w (.cells #[.slice ao l.length cap, .int .i64 (e.1 : Nat), .int .i64 (e.2 : Nat), .int .i64 0, .nilIface] 159)
    simp only
    rw [hkl]
    exact this
  · simp only
    rw [hkl]
    exact hcap
  · simp only at hne ⊢
    rw [hkl, Nat.sub_self, Nat.zero_mul]
    exact hao (by rintro rfl; exact hne rfl)
  · simp only [kt, List.mem_map] at ht'
    obtain ⟨u, hu, rfl⟩ := ht'
    have := (ht u hu).1
    simp only
    omega
theorem bad_class {a : Int × (Nat × Nat) × List Tok} (h : a.1 ≠ 0) {α : Type} (z : α) (p : St → α × St) : answer z p a = (z, a.2.1, a.1) := if_neg h
theorem setP_turns {F : Nat → Prop} {w x : World} (h : Turns F w x) (R : Nat) (hR : F R) (a b : Value) : Turns F w ((x.setCell ⟨R, 0, none⟩ a).setCell ⟨R, 1, none⟩ b) := (h.setCell (p := ⟨R, 0, none⟩) hR a).setCell (p := ⟨R, 1, none⟩) hR b
theorem setPl_below' {B : Nat} {w x : World} (h : Below B w x) {R : Nat} (hR : B ≤ R) (a b : Value) : Below B w ((x.setCell ⟨R, 0, none⟩ a).setCell ⟨R, 1, none⟩ b) := (h.setCell (p := ⟨R, 0, none⟩) hR a).setCell (p := ⟨R, 1, none⟩) hR b
theorem pl_cells {R : Nat} {x : World} {u v : Value} (h : x.heap[R]? = some (.cells #[u, v] tPl (0, 0))) : x.cell? ⟨R, 0, none⟩ = some u ∧ x.cell? ⟨R, 1, none⟩ = some v ∧ x.frozen? ⟨R, 0, none⟩ = false ∧ x.frozen? ⟨R, 1, none⟩ = false :=
  ⟨by rw [Lib.cell_of_heap h]; rfl, by rw [Lib.cell_of_heap h]; rfl, Lib.frozen_of_heap h 0, Lib.frozen_of_heap h 1⟩
theorem other_set {x : World} {R k i : Nat} {v : Value} (h : k ≠ R) : (x.setCell ⟨R, i, none⟩ v).heap[k]? = x.heap[k]? := Below.heap_setCell x ⟨R, i, none⟩ v k h
structure Wr (w : World) (zc : Array Value) (T : TypeId) (c : Ctx) (s : St) (R12 : Nat) (vc : Array Value) (I : World → Prop) (x : World) : Prop where
  base : Wh w zc T c s x
  t : x.heap[R12]? = some (.cells vc T (0, 0))
  low : c.R < R12
  isr : I x
  keep : ∀ y F, Turns F x y → (∀ k, F k → k ≤ c.R) → I y
theorem Wr.turn {w : World} {zc : Array Value} {T : TypeId} {c : Ctx} {s s' : St} {R12 : Nat} {vc : Array Value} {I : World → Prop} {x y : World} (h : Wr w zc T c s R12 vc I x) (hr : Rd c 0 s' y) (ht : Turns (fun k => k = c.R) x y) (hk : ∀ z F, Turns F y z → (∀ k, F k → k ≤ c.R) → I z) : Wr w zc T c s' R12 vc I y :=
  ⟨h.base.turn hr ht, ht.heap h.t (by have := h.low; omega), h.low, h.keep y _ ht fun k hk => Nat.le_of_eq hk, hk⟩
def Eqw (w x : World) : Prop := x = w
theorem Eqw.refl (w : World) : Eqw w w := rfl
theorem Eqw.trans {x y z : World} (h : Eqw x y) (k : Eqw y z) : Eqw x z := Eq.trans k h
def KeepN (c : Ctx) (n : Nd) (v : Value) (x : World) : Prop := NodeS (fun g => c.R + 1 ≤ g) x n v
theorem keepN {c : Ctx} {n : Nd} {v : Value} {x : World} (h : KeepN c n v x) (y : World) (F : Nat → Prop) (ht : Turns F x y) (hF : ∀ k, F k → k ≤ c.R) : KeepN c n v y := NodeS.turn h ht (fun g hg _ e => by have := hF g e; omega) fun g hg _ => hg
def KeepC (c : Ctx) (n : List Ty) (v : Value) (x : World) : Prop := CfS x (c.R + 1) n v
theorem keepC {c : Ctx} {n : List Ty} {v : Value} {x : World} (h : KeepC c n v x) (y : World) (F : Nat → Prop) (ht : Turns F x y) (hF : ∀ k, F k → k ≤ c.R) : KeepC c n v y := by
  obtain ⟨ao, cap, rfl, h1⟩ := h
  exact ⟨ao, cap, rfl, h1.turn ht fun g hg _ e => by have := hF g e; omega⟩
theorem answer_ok {α : Type} {z : α} {p : St → α × St} {en : Nat × Nat} {l : List Tok} (h : (fin (p ⟨kt l, 0⟩).2).err = 0) : answer z p (0, en, l) = ((p ⟨kt l, 0⟩).1, (0, 0), 0) := by
  rw [answer, if_pos rfl, done, if_pos h]; rfl
theorem answer_err {α : Type} {z : α} {p : St → α × St} {en : Nat × Nat} {l : List Tok} {n : Nat} (h : (fin (p ⟨kt l, 0⟩).2).err = n) (hn : n ≠ 0) : answer z p (0, en, l) = (z, place l (fin (p ⟨kt l, 0⟩).2) en, (n : Int)) := by
  rw [answer, if_pos rfl, done, if_neg (by rw [h]; exact hn)]
  simp only
  rw [h]

set_option maxHeartbeats 8000000 in
set_option maxRecDepth 100000 in
theorem wholeC_bad {s : ByteArray} {w : World} (hs : s.size ≤ 4000000) (hbad : (Sg.ans (Gly.runes s.data.toList)).1 ≠ 0) :
    Calls Tryz.prog 57 #[.string s, .func (.func 58) #[] #[]] w fun e y => ∃ v, e = .returned (.tuple #[v, plV (Sg.ans (Gly.runes s.data.toList)).2.1, .int .i64 (Sg.ans (Gly.runes s.data.toList)).1]) ∧ CfS y w.heap.size ([] : List Ty) v ∧ Below w.heap.size w y := by
  have hz := Wz.start w #[.slice none 0 0] 24
  have HC := Lib.hid (Sg.lex_any s (((w.alloc (.cells #[.slice none 0 0] 24)).alloc (.cells #[.int .i64 0, .int .i64 0] tPl)).alloc (.cells #[.slice none 0 0] 24)) hs)
  have HZ := Lib.hid hz
  clear hz
  generalize Sg.ans (Gly.runes s.data.toList) = a at *
  obtain ⟨code, en, toks⟩ := a
  simp only at *
  go_enter Tryz.func57, Tryz.ntmps57
  go_wp2_with fail
  refine HC.out.mono ?_
  rintro e w4 ⟨tv, rfl, ho, hb⟩
  obtain ⟨tao, tc, rfl⟩ := own_slice ho
  have al : Below w4.heap.size w4 (w4.alloc (.cells #[.int .i64 (en.1 : Nat), .int .i64 (en.2 : Nat)] tPl)) := (Below.refl _ _).alloc (Nat.le_refl _) _
  have HZ2 := Lib.hid (And.intro ((HZ.out.on hb).on al) (PlB.new w4 en))
  have HR9 := Lib.hid (HZ.out.on hb).lt
  have e0 : (code != 0) = true := by simpa using hbad
  clear ho hb al HC HZ hbad
  unfold plV
  simp only
  go_wp2_with fail
  generalize w4.heap.size = R9 at *
  generalize w4.alloc (.cells #[.int .i64 (en.1 : Nat), .int .i64 (en.2 : Nat)] 73) = w5' at *
  clear w4
  have hbd : Below w5'.heap.size w5' w5'.drew := (Below.refl _ _).drew
  have hh := HZ2.out.1.on hbd
  have hpl := HZ2.out.2.on hbd
  have hR9 : w.heap.size + 1 < R9 := by have := HR9.out; omega
  refine Order.region_begin (S := Turns (fun k => k = w.heap.size ∨ k = w.heap.size + 1) w5'.drew) (by kernel_rfl) ?_
  generalize w5'.drew = w5 at *
  have HX := Lib.hid (show ∀ x, Turns (fun k => k = w.heap.size ∨ k = w.heap.size + 1) w5 x → (x.cell? ⟨w.heap.size + 1 + 1, 0, none⟩ = some (.slice none 0 0)) ∧ (x.cell? ⟨R9, 0, none⟩ = some (.int .i64 (en.1 : Nat)) ∧ x.cell? ⟨R9, 1, none⟩ = some (.int .i64 (en.2 : Nat))) from fun x hx => by
    have h1 := hx.heap hh.z (by omega)
    have h2 := hx.heap hpl (by omega)
    exact ⟨(by rw [Lib.cell_of_heap h1]; rfl), by rw [Lib.cell_of_heap h2]; rfl, by rw [Lib.cell_of_heap h2]; rfl⟩)
  refine Order.reads_any (idx := [0, 1, 2]) (by kernel_rfl) (Turns.refl _ _) (fun _ _ _ _ _ h => Order.noPanic_put h) 3 _ _ (by decide +kernel) ?_
  simp only [Order.pick, List.getElem?_toArray, List.getElem?_cons_zero, List.getElem?_cons_succ]
  repeat (first
    | (refine Order.reads_off (by rfl) ?_
       simp only [Act.put, List.setIfInBounds_toArray, List.set_cons_zero, List.set_cons_succ])
    | (apply Order.reads_on
       · rfl
       · intro x hx
         first
           | (go_simp; rfl)
           | (obtain ⟨i0, j0, j1⟩ := HX.out x hx
              go_simp; rfl)
       simp only [Act.put, List.setIfInBounds_toArray, List.set_cons_zero, List.set_cons_succ]))
  refine Order.reads_end ?_
  have a0 : w5.cell? ⟨w.heap.size, 0, none⟩ = some (.slice none 0 0) := by rw [Lib.cell_of_heap hh.a]; rfl
  have fa0 := Lib.frozen_of_heap hh.a 0
  apply Order.acts_any (R := (Turns (fun k => k = w.heap.size ∨ k = w.heap.size + 1))) (fun h k => h.trans k fun _ _ h => h) (i := 3)
  · rfl
  · decide +kernel
  · rfl
  unfold Oper.wp
  go_simp
  have tA : Turns (fun k => k = w.heap.size ∨ k = w.heap.size + 1) w5 (w5.setCell ⟨w.heap.size, 0, none⟩ (.slice none 0 0)) := ((Turns.refl (fun k => k = w.heap.size ∨ k = w.heap.size + 1) w5).setCell (p := ⟨w.heap.size, 0, none⟩) (.inl rfl) (.slice none 0 0))
  have hAa : (w5.setCell ⟨w.heap.size, 0, none⟩ (.slice none 0 0)).heap[w.heap.size]? = some (.cells #[.slice none 0 0] 24 (0, 0)) := (Lib.heap_setCell_same (i := 0) hh.a (.slice none 0 0))
  have hAp : (w5.setCell ⟨w.heap.size, 0, none⟩ (.slice none 0 0)).heap[w.heap.size + 1]? = some (.cells #[.int .i64 0, .int .i64 0] tPl (0, 0)) := by
    repeat rw [other_set (by omega)]
    exact hh.p
  have hAb : Below w.heap.size w (w5.setCell ⟨w.heap.size, 0, none⟩ (.slice none 0 0)) := hh.below.trans (tA.below hh.below.size fun k hk => by omega)
  refine ⟨tA, ?_⟩
  clear HX tA
  generalize (w5.setCell ⟨w.heap.size, 0, none⟩ (.slice none 0 0)) = wA at *
  obtain ⟨p0, p1, fp0, fp1⟩ := pl_cells hAp
  apply Order.acts_any (R := (Turns (fun k => k = w.heap.size ∨ k = w.heap.size + 1))) (fun h k => h.trans k fun _ _ h => h) (i := 4)
  · rfl
  · decide +kernel
  · rfl
  unfold Oper.wp
  go_simp
  refine ⟨setP_turns (Turns.refl _ _) _ (.inr rfl) _ _, ?_⟩
  have hWa : ((wA.setCell ⟨w.heap.size + 1, 0, none⟩ (.int .i64 (en.1 : Nat))).setCell ⟨w.heap.size + 1, 1, none⟩ (.int .i64 (en.2 : Nat))).heap[w.heap.size]? = some (.cells #[.slice none 0 0] 24 (0, 0)) := by
    repeat rw [other_set (by omega)]
    exact hAa
  have hWp : ((wA.setCell ⟨w.heap.size + 1, 0, none⟩ (.int .i64 (en.1 : Nat))).setCell ⟨w.heap.size + 1, 1, none⟩ (.int .i64 (en.2 : Nat))).heap[w.heap.size + 1]? = some (.cells #[.int .i64 (en.1 : Nat), .int .i64 (en.2 : Nat)] tPl (0, 0)) :=
    Lib.heap_setCell_same (i := 1) (Lib.heap_setCell_same (i := 0) hAp _) _
  have hWb := setPl_below' hAb (R := w.heap.size + 1) (by omega) (.int .i64 (en.1 : Nat)) (.int .i64 (en.2 : Nat))
  generalize (wA.setCell ⟨w.heap.size + 1, 0, none⟩ (.int .i64 (en.1 : Nat))).setCell ⟨w.heap.size + 1, 1, none⟩ (.int .i64 (en.2 : Nat)) = W at *
  refine Order.reads_any (idx := [5]) (by kernel_rfl) (Turns.refl _ _) (fun _ _ _ _ _ h => Order.noPanic_put h) 0 _ _ (by decide +kernel) ?_
  simp only [Order.pick, List.getElem?_toArray, List.getElem?_cons_zero, List.getElem?_cons_succ]
  repeat (first
    | (refine Order.reads_off (by rfl) ?_
       simp only [Act.put, List.setIfInBounds_toArray, List.set_cons_zero, List.set_cons_succ])
    | (apply Order.reads_on
       · rfl
       · intro x hx
         first
           | (go_simp; rfl)
           | (fail
              go_simp; rfl)
       simp only [Act.put]))
  refine Order.reads_end ?_
  refine wpAnyH_done (by decide +kernel) ?_ _
  refine NoPanic.normal ?_
  clear hAa hAp hAb p0 p1 fp0 fp1 HZ2 hpl hh HR9 hbd
  go_wp2_with fail
  have g0 : W.cell? ⟨w.heap.size, 0, none⟩ = some (.slice none 0 0) := by rw [Lib.cell_of_heap hWa]; rfl
  obtain ⟨q0, q1, -, -⟩ := pl_cells hWp
  exact bodyPost_ret (v := .tuple #[.agg #[.slice none 0 0], plV en, .int .i64 code]) (by simp [results, Tryz.results57, go_sem, plV, g0, q0, q1]) rfl ⟨_, rfl, ⟨none, 0, rfl, RowS.nil _ _ _ _⟩, hWb⟩
end Gr
end Go.Proofs.YtopncohhagebbaaGreatDoor
