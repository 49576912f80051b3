/-
  Layer 7's document: take.
-/
import Derived.Test.YtbphmaoomnocmaaDoorGrD
import Derived.Test.YtbphmaoomnocmaaDoorMgMem
namespace Go.Proofs.YtbphmaoomnocmaaDoor
open Go.RowKit
namespace Gr
open Knot (Turns NewRow)
open Tr (Nd none0 node4 own_slice Box4)
open Sg (Tok kt TokAt txt)

/-- A result's box, a state's. -/
def Rs (R : Nat) (x : World) : Prop := x.heap[R]? = some (.cells #[.slice none 0 0, .int .i64 0, .int .i64 0, .int .i64 0] 64 (0, 0))
theorem Rs.cells {R : Nat} {x : World} (h : Rs R x) : x.cell? ⟨R, 0, none⟩ = some (.slice none 0 0) ∧ x.cell? ⟨R, 1, none⟩ = some (.int .i64 0) ∧ x.cell? ⟨R, 2, none⟩ = some (.int .i64 0) ∧ x.cell? ⟨R, 3, none⟩ = some (.int .i64 0) :=
  ⟨by rw [Lib.cell_of_heap h]; rfl, by rw [Lib.cell_of_heap h]; rfl, by rw [Lib.cell_of_heap h]; rfl, by rw [Lib.cell_of_heap h]; rfl⟩
theorem Rs.free {R : Nat} {x : World} (h : Rs R x) : x.frozen? ⟨R, 0, none⟩ = false ∧ x.frozen? ⟨R, 1, none⟩ = false ∧ x.frozen? ⟨R, 2, none⟩ = false ∧ x.frozen? ⟨R, 3, none⟩ = false := ⟨Lib.frozen_of_heap h 0, Lib.frozen_of_heap h 1, Lib.frozen_of_heap h 2, Lib.frozen_of_heap h 3⟩
theorem rcells {R : Nat} {c : DCtx} {a o er : Nat} {T : TypeId} {x : World} (h : x.heap[R]? = some (.cells #[.slice c.ao c.L.length c.cap, .int .i64 (a : Nat), .int .i64 (o : Nat), .int .i64 (er : Nat)] T (0, 0))) : x.cell? ⟨R, 0, none⟩ = some (.slice c.ao c.L.length c.cap) ∧ x.cell? ⟨R, 1, none⟩ = some (.int .i64 (a : Nat)) ∧ x.cell? ⟨R, 2, none⟩ = some (.int .i64 (o : Nat)) ∧ x.cell? ⟨R, 3, none⟩ = some (.int .i64 (er : Nat)) :=
  ⟨by rw [Lib.cell_of_heap h]; rfl, by rw [Lib.cell_of_heap h]; rfl, by rw [Lib.cell_of_heap h]; rfl, by rw [Lib.cell_of_heap h]; rfl⟩
/-- What take stands on. -/
structure Tk (c : DCtx) (x : World) (a o er : Nat) (w : World) : Prop where
  box : DB x.heap.size c a o er w
  res : Rs (x.heap.size + 1) w
  below : Below x.heap.size x w
  env : DEnv c w
theorem Tk.on {c : DCtx} {x : World} {a o er : Nat} {w y : World} (h : Tk c x a o er w) (hb : Below w.heap.size w y) : Tk c x a o er y :=
  ⟨h.box.on hb, (hb.block _ (Array.getElem?_eq_some_iff.1 h.res).1).trans h.res, h.below.trans (hb.mono h.below.size), h.env.below hb⟩
theorem env_set {c : DCtx} {x w : World} {R i : Nat} {v : Value} (h0 : DEnv c x) (hb : Below x.heap.size x w) (hR : x.heap.size ≤ R) : DEnv c (w.setCell ⟨R, i, none⟩ v) :=
  h0.below (hb.setCell (p := ⟨R, i, none⟩) hR v)
theorem Tk.put1 {c : DCtx} {x : World} {a o er : Nat} {w : World} (h : Tk c x a o er w) (h0 : DEnv c x) (a' : Nat) : Tk c x a' o er (w.setCell ⟨x.heap.size, 1, none⟩ (.int .i64 (a' : Nat))) :=
  ⟨h.box.put1 a', (Below.heap_setCell _ _ _ _ (by simp)).trans h.res, h.below.setCell (p := ⟨x.heap.size, 1, none⟩) (Nat.le_refl _) _, env_set h0 h.below (Nat.le_refl _)⟩
theorem Tk.put2 {c : DCtx} {x : World} {a o er : Nat} {w : World} (h : Tk c x a o er w) (h0 : DEnv c x) (o' : Nat) : Tk c x a o' er (w.setCell ⟨x.heap.size, 2, none⟩ (.int .i64 (o' : Nat))) :=
  ⟨h.box.put2 o', (Below.heap_setCell _ _ _ _ (by simp)).trans h.res, h.below.setCell (p := ⟨x.heap.size, 2, none⟩) (Nat.le_refl _) _, env_set h0 h.below (Nat.le_refl _)⟩
theorem Tk.put3 {c : DCtx} {x : World} {a o er : Nat} {w : World} (h : Tk c x a o er w) (h0 : DEnv c x) (e' : Nat) : Tk c x a o e' (w.setCell ⟨x.heap.size, 3, none⟩ (.int .i64 (e' : Nat))) :=
  ⟨h.box.put3 e', (Below.heap_setCell _ _ _ _ (by simp)).trans h.res, h.below.setCell (p := ⟨x.heap.size, 3, none⟩) (Nat.le_refl _) _, env_set h0 h.below (Nat.le_refl _)⟩
theorem Tk.start {c : DCtx} {x : World} (h : DEnv c x) (a o er : Nat) : Tk c x a o er ((x.alloc (.cells #[.slice c.ao c.L.length c.cap, .int .i64 (a : Nat), .int .i64 (o : Nat), .int .i64 (er : Nat)] 64)).alloc (.cells #[.slice none 0 0, .int .i64 0, .int .i64 0, .int .i64 0] 64)) := by
  have b1 : Below x.heap.size x (x.alloc (.cells #[.slice c.ao c.L.length c.cap, .int .i64 (a : Nat), .int .i64 (o : Nat), .int .i64 (er : Nat)] 64)) := (Below.refl _ _).alloc (Nat.le_refl _) _
  have s1 : (x.alloc (.cells #[.slice c.ao c.L.length c.cap, .int .i64 (a : Nat), .int .i64 (o : Nat), .int .i64 (er : Nat)] 64)).heap.size = x.heap.size + 1 := by simp
  have b2 : Below (x.heap.size + 1) (x.alloc (.cells #[.slice c.ao c.L.length c.cap, .int .i64 (a : Nat), .int .i64 (o : Nat), .int .i64 (er : Nat)] 64)) ((x.alloc (.cells #[.slice c.ao c.L.length c.cap, .int .i64 (a : Nat), .int .i64 (o : Nat), .int .i64 (er : Nat)] 64)).alloc (.cells #[.slice none 0 0, .int .i64 0, .int .i64 0, .int .i64 0] 64)) := (Below.refl _ _).alloc (by omega) _
  have n2 := heap_alloc_new (x.alloc (.cells #[.slice c.ao c.L.length c.cap, .int .i64 (a : Nat), .int .i64 (o : Nat), .int .i64 (er : Nat)] 64)) (.cells #[.slice none 0 0, .int .i64 0, .int .i64 0, .int .i64 0] 64)
  rw [s1] at n2
  have bb := b1.trans (b2.mono (by omega))
  exact ⟨(b2.block _ (by omega)).trans (DB.new x c a o er), n2, bb, h.below bb⟩
/-- How a state is handed back. -/
theorem Tk.fin {c : DCtx} {x : World} {a o er : Nat} {w : World} (h : Tk c x a o er w) (a' o' er' : Nat) :
    (setS w (x.heap.size + 1) c a' o' er').heap[x.heap.size + 1]? = some (.cells #[.slice c.ao c.L.length c.cap, .int .i64 (a' : Nat), .int .i64 (o' : Nat), .int .i64 (er' : Nat)] 64 (0, 0)) ∧ Below x.heap.size x (setS w (x.heap.size + 1) c a' o' er') :=
  ⟨DB.set h.res c a' o' er', setS_below h.below (by omega) c a' o' er'⟩
set_option maxHeartbeats 4000000 in
set_option maxRecDepth 100000 in
theorem dtake_any {c : DCtx} {o : Nat} {s : St} {x : World} (h : DEnv c x) (hs : s.rest <:+ kt c.L) (k : Int) (hk : k ≠ 0) : Calls Tryd.prog 52 #[stV c o s, .int .i64 k] x (TkOut c o (need s k) (tk s k) x) := by
  have hT := Tk.start h (atN c s) o s.err
  have HT := Lib.hid hT
  have H0 := Lib.hid h
  have HA := Lib.hid (need_at (s := s) hs hk)
  have hlen := h.len
  have hle := dlen hs
  show Calls _ _ #[.agg #[.slice c.ao c.L.length c.cap, .int .i64 (atN c s : Nat), .int .i64 (o : Nat), .int .i64 (s.err : Nat)], .int .i64 k] _ _
  obtain ⟨c0, c1, c2, c3⟩ := hT.box.cells
  obtain ⟨d0, d1, d2, d3⟩ := hT.res.cells
  obtain ⟨f0, f1, f2, f3⟩ := hT.res.free
  obtain ⟨-, u1, -, u3⟩ := hT.box.free
  by_cases he : s.err = 0
  · have e0 : ((s.err : Int) != 0) = false := by simp; omega
    have hK : Calls Tryd.prog 49 #[.agg #[.slice c.ao c.L.length c.cap, .int .i64 (atN c s : Nat), .int .i64 (o : Nat), .int .i64 (s.err : Nat)]] _ _ := dkind_any (o := o) (s := s) hT.env hs
    have HK := Lib.hid hK
    have hne : need s k = if next s = k then tl s else fail s 11 := rfl
    by_cases hn : next s = k
    · obtain ⟨-, t, r, hr, ht⟩ := next_good (s := s) (by rw [hn]; exact hk)
      obtain ⟨hj, htx⟩ := dhead hs hr
      have hout : stV c o (need s k) = .agg #[.slice c.ao c.L.length c.cap, .int .i64 ((atN c s + 1 : Nat) : Int), .int .i64 (o : Nat), .int .i64 (s.err : Nat)] :=
        stV_eq (by rw [HA.out, if_pos hn]) (by rw [hne, if_pos hn]; rfl)
      have htk : tk s k = txt c.L[atN c s].text := by
        rw [tk, if_pos hn, hr]
        have := congrArg Prod.snd htx
        simp only at this
        rw [this]; rfl
      unfold TkOut
      rw [hout, htk]
      rw [hn] at HK
      obtain ⟨hao, hG, -⟩ := h.toks _ hj
      have HTk := Lib.hid (show ∀ y, Below x.heap.size x y → y.cell? ⟨c.G, atN c s * 4 + 1, none⟩ = some (.string (txt c.L[atN c s].text)) from fun y hb => ((h.below hb).toks _ hj).2.2.2.1)
      have hix : ∀ W, (Instr.indexAt 60 (.slice c.ao c.L.length c.cap) (.int .i64 (atN c s : Nat))).run Tryd.prog W = .ok (.pointer (some ⟨c.G, atN c s * 4, none⟩)) W := by rw [hao]; exact index_dtok hj
      clear hK hne hr ht htx hout htk h hs hn hle he HA
      generalize txt c.L[atN c s].text = tx at *
      generalize hjj : atN c s = j at *
      generalize s.err = er at *
      clear hjj
      clear hao
      have hjl : j ≤ 10000 := by omega
      clear hj hlen
      go_enter Tryd.func52, Tryd.ntmps52
      go_wp2_with fail
      generalize (x.alloc (.cells #[.slice c.ao c.L.length c.cap, .int .i64 (j : Nat), .int .i64 (o : Nat), .int .i64 (er : Nat)] 64)).alloc (.cells #[.slice none 0 0, .int .i64 0, .int .i64 0, .int .i64 0] 64) = w1 at *
      refine HK.out.mono ?_
      rintro e w2 ⟨rfl, hb⟩
      have hT := HT.out.on hb
      have hT3 := hT.put1 H0.out (j + 1)
      have ej : ((j + 1 : Nat) : Int) = (j : Int) + 1 := by omega
      rw [ej] at hT3
      have hT4 := hT3.on ((Below.refl _ _).drew (B := (w2.setCell ⟨x.heap.size, 1, none⟩ (.int .i64 ((j : Int) + 1))).heap.size))
      clear c0 c1 c2 c3 d0 d1 d2 d3 f0 f1 f2 f3 u1 u3
      obtain ⟨c0, c1, c2, c3⟩ := hT.box.cells
      obtain ⟨-, u1, -, u3⟩ := hT.box.free
      have hw : IntKind.wrap .i64 ((j : Int) + 1) = (j : Int) + 1 := by
        rw [IntKind.wrap_i64] <;> omega
      have HT4 := Lib.hid hT4
      clear hT hT3 hT4 hb HT HK
      go_wp2_with fail
      refine Order.region_begin (S := Turns (fun g => g = x.heap.size + 1) (w2.setCell ⟨x.heap.size, 1, none⟩ (.int .i64 ((j : Int) + 1))).drew) (by kernel_rfl) ?_
      generalize (w2.setCell ⟨x.heap.size, 1, none⟩ (.int .i64 ((j : Int) + 1))).drew = w3 at *
      clear c0 c1 c2 c3 u1 u3 hw
      have hw2 : IntKind.wrap .i64 (j : Int) = (j : Int) := by
        rw [IntKind.wrap_i64] <;> omega
      have HX := Lib.hid (show ∀ z, Turns (fun g => g = x.heap.size + 1) w3 z → (z.cell? ⟨x.heap.size, 0, none⟩ = some (.slice c.ao c.L.length c.cap) ∧ z.cell? ⟨x.heap.size, 1, none⟩ = some (.int .i64 ((j : Int) + 1)) ∧ z.cell? ⟨x.heap.size, 2, none⟩ = some (.int .i64 (o : Nat)) ∧ z.cell? ⟨x.heap.size, 3, none⟩ = some (.int .i64 (er : Nat))) ∧ z.cell? ⟨c.G, j * 4 + 1, none⟩ = some (.string tx) from fun z hz => by
        have h1 := DB.cells ((hz.heap HT4.out.box (by omega)) : DB x.heap.size c (j + 1) o er z)
        rw [ej] at h1
        exact ⟨h1, (hz.cell (p := ⟨c.G, j * 4 + 1, none⟩) (Nat.lt_of_lt_of_le hG HT4.out.below.size) (by simp only; omega)).trans (HTk.out _ HT4.out.below)⟩)
      have hTz := HT4.out.res
      obtain ⟨d0, d1, d2, d3⟩ := hTz.cells
      obtain ⟨f0, f1, f2, f3⟩ := hTz.free
      have hF := HT4.out.fin (j + 1) o er
      have hS := setS_own w3 (x.heap.size + 1) c (j + 1) o er
      unfold setS at hF hS
      rw [ej] at hF hS
      have HF := Lib.hid (And.intro hF hS)
      clear hTz hF hS HT4 HTk hG
      refine Order.reads_any (idx := [0, 1, 2, 3, 4, 5, 6, 7, 8]) (by kernel_rfl) (Turns.refl _ _) (fun _ _ _ _ _ h => Order.noPanic_put h) 2 _ _ (by decide +kernel) ?_
      simp only [Order.pick, List.getElem?_toArray, List.getElem?_cons_zero, List.getElem?_cons_succ]
      repeat (first
        | (refine Order.reads_off (by rfl) ?_
           simp only [Act.put, List.setIfInBounds_toArray, List.set_cons_zero, List.set_cons_succ])
        | (apply Order.reads_on
           · rfl
           · intro x hx
             first
               | (go_simp; rfl)
               | (obtain ⟨⟨i0, i1, i2, i3⟩, i4⟩ := HX.out x hx
                  go_simp; rfl)
           simp only [Act.put, List.setIfInBounds_toArray, List.set_cons_zero, List.set_cons_succ]))
      refine Order.reads_end ?_
      apply Order.acts_any (R := (Turns (fun g => g = x.heap.size + 1))) (fun h k => h.trans k fun _ _ h => h) (i := 9)
      · rfl
      · decide +kernel
      · rfl
      unfold Oper.wp
      go_simp
      refine ⟨HF.out.2, ?_⟩
      obtain ⟨⟨hFa, hFb⟩, -⟩ := HF.out
      obtain ⟨g0, g1, g2, g3⟩ := rcells (c := c) (a := j + 1) (o := o) (er := er) hFa
      rw [ej] at g1
      have HG := Lib.hid (And.intro g0 (And.intro g1 (And.intro g2 (And.intro g3 hFb))))
      clear hFa hFb g0 g1 g2 g3 HF HX d0 d1 d2 d3 f0 f1 f2 f3
      generalize (((w3.setCell ⟨x.heap.size + 1, 0, none⟩ (.slice c.ao c.L.length c.cap)).setCell ⟨x.heap.size + 1, 1, none⟩ (.int .i64 ((j : Int) + 1))).setCell ⟨x.heap.size + 1, 2, none⟩ (.int .i64 (o : Nat))).setCell ⟨x.heap.size + 1, 3, none⟩ (.int .i64 (er : Nat)) = w4 at *
      refine Order.reads_any (idx := [10]) (by kernel_rfl) (Turns.refl _ _) (fun _ _ _ _ _ h => Order.noPanic_put h) 0 _ _ (by decide +kernel) ?_
      simp only [Order.pick, List.getElem?_toArray, List.getElem?_cons_zero, List.getElem?_cons_succ]
      repeat (first
        | (refine Order.reads_off (by rfl) ?_
           simp only [Act.put, List.setIfInBounds_toArray, List.set_cons_zero, List.set_cons_succ])
        | (apply Order.reads_on
           · rfl
           · intro x hx
             first
               | (go_simp; rfl)
               | (fail
                  go_simp; rfl)
           simp only [Act.put]))
      refine Order.reads_end ?_
      refine wpAnyH_done (by decide +kernel) ?_ _
      refine NoPanic.normal ?_
      go_wp2_with fail
      obtain ⟨g0, g1, g2, g3, hbb⟩ := HG.out
      exact bodyPost_ret (v := .tuple #[.agg #[.slice c.ao c.L.length c.cap, .int .i64 ((j : Int) + 1), .int .i64 (o : Nat), .int .i64 (er : Nat)], .string tx]) (by simp [results, Tryd.results52, go_sem, g0, g1, g2, g3]) rfl ⟨by rw [ej], hbb⟩
    · have hout : stV c o (need s k) = .agg #[.slice c.ao c.L.length c.cap, .int .i64 (atN c s : Nat), .int .i64 (o : Nat), .int .i64 ((11 : Nat) : Int)] :=
        stV_eq (by rw [HA.out, if_neg hn]) (by rw [hne, if_neg hn, fail, if_pos he])
      have htk : tk s k = none0 := by rw [tk, if_neg hn]
      have e1 : (next s != k) = true := by simpa using hn
      unfold TkOut
      rw [hout, htk]
      clear hK hne hout htk h hs hn hle he HA hlen
      generalize next s = nx at *
      generalize hjj : atN c s = j at *
      generalize s.err = er at *
      clear hjj
      go_enter Tryd.func52, Tryd.ntmps52
      go_wp2_with fail
      generalize (x.alloc (.cells #[.slice c.ao c.L.length c.cap, .int .i64 (j : Nat), .int .i64 (o : Nat), .int .i64 (er : Nat)] 64)).alloc (.cells #[.slice none 0 0, .int .i64 0, .int .i64 0, .int .i64 0] 64) = w1 at *
      refine HK.out.mono ?_
      rintro e w2 ⟨rfl, hb⟩
      have hT := HT.out.on hb
      have hT3 := hT.put3 H0.out 11
      have e11 : ((11 : Nat) : Int) = 11 := rfl
      rw [e11] at hT3
      clear c0 c1 c2 c3 d0 d1 d2 d3 f0 f1 f2 f3 u1 u3
      obtain ⟨c0, c1, c2, c3⟩ := hT3.box.cells
      rw [e11] at c3
      obtain ⟨d0, d1, d2, d3⟩ := hT3.res.cells
      obtain ⟨f0, f1, f2, f3⟩ := hT3.res.free
      obtain ⟨b0, b1, b2, b3⟩ := hT.box.cells
      obtain ⟨-, -, -, u3⟩ := hT.box.free
      have hF := hT3.fin j o 11
      obtain ⟨g0, g1, g2, g3⟩ := rcells hF.1
      unfold setS at g0 g1 g2 g3 hF
      rw [e11] at g0 g1 g2 g3 hF
      have HG := Lib.hid (And.intro g0 (And.intro g1 (And.intro g2 (And.intro g3 hF.2))))
      clear hT hT3 hb HT HK hF g0 g1 g2 g3
      go_wp2_with fail
      obtain ⟨g0, g1, g2, g3, hbb⟩ := HG.out
      exact bodyPost_ret (v := .tuple #[.agg #[.slice c.ao c.L.length c.cap, .int .i64 (j : Nat), .int .i64 (o : Nat), .int .i64 11], .string none0]) (by simp [results, Tryd.results52, go_sem, g0, g1, g2, g3, none0]) rfl ⟨rfl, hbb⟩
  · have e0 : ((s.err : Int) != 0) = true := by simp; omega
    have hout : stV c o (need s k) = .agg #[.slice c.ao c.L.length c.cap, .int .i64 (atN c s : Nat), .int .i64 (o : Nat), .int .i64 (s.err : Nat)] := by rw [need_bad he hk]
    have htk : tk s k = none0 := by rw [tk, next_bad he, if_neg (fun e => hk e.symm)]
    unfold TkOut
    rw [hout, htk]
    clear hout htk h hs hle he HA hlen hT HT H0
    generalize atN c s = j at *
    generalize s.err = er at *
    go_enter Tryd.func52, Tryd.ntmps52
    go_wp2_with fail
    exact bodyPost_ret (v := .tuple #[.agg #[.slice c.ao c.L.length c.cap, .int .i64 (j : Nat), .int .i64 (o : Nat), .int .i64 (er : Nat)], .string none0]) (by simp [results, Tryd.results52, go_sem, none0]) rfl ⟨rfl, ((Below.refl _ _).alloc (Nat.le_refl _) _).alloc (by simp) _⟩
end Gr
end Go.Proofs.YtbphmaoomnocmaaDoor
